/- Plain whole numbers of 64 and of 128 bits: products, quotients, rests, and the long division by halves of words; nothing of a program. Conditions: as each fact states them. -/
import Derived.IntWalk
import Derived.Laws.Bits64b
import Derived.Lib.ItoaNum
import Derived.Lib.BitFns
import Derived.Lib.Mul64
import Derived.Shelf.Small.Bits
import Derived.Shelf.Strconv.Itoa0
import Derived.Shelf.Bits.Mul64
import Derived.Test.YtnnjbonejbmgdaaGreatProg
import Derived.Test.YtnnjbonejbmgdaaGreatRows
import Derived.WalkKit
import Derived.ProofKit
import Derived.OpenShut
import Derived.Handy
import Derived.Lib.Hide
import Derived.LoopTactic
import Derived.RegionTactic
import Derived.ChangeAlike
import Derived.Deep.QuietTactic
import Derived.BigQuiet
import Derived.Deep.LoopGhost
import Derived.Deep.CutBlock
import Derived.Deep.DeepCutAuto
namespace Go.Proofs.YtnnjbonejbmgdaaGreat.Wide
set_option linter.unusedVariables false

def U64 (n : Int) : Prop := 0 ≤ n ∧ n ≤ 18446744073709551615
/-- Quotient, rest, and whether there is one, of a times b, divided by c. -/
def divs (a b c : Int) : Prop := 1 ≤ c ∧ a * b / c ≤ 18446744073709551615
def quo (a b c : Int) : Int := if 1 ≤ c ∧ a * b / c ≤ 18446744073709551615 then a * b / c else 0
def rst (a b c : Int) : Int := if 1 ≤ c ∧ a * b / c ≤ 18446744073709551615 then a * b % c else 0
def can (a b c : Int) : Bool := decide (1 ≤ c ∧ a * b / c ≤ 18446744073709551615)
def ups (a b c : Int) : Int := if can a b c then (if rst a b c = 0 then quo a b c else if quo a b c = 18446744073709551615 then 0 else quo a b c + 1) else 0
def upc (a b c : Int) : Bool := can a b c && (rst a b c == 0 || quo a b c != 18446744073709551615)
def cmpr (a b c d : Int) : Int := if a * b < c * d then -1 else if a * b = c * d then 0 else 1

/-- What is known of a division whose divisor has its highest bit, by halves: Y the divisor, n1 and n0 its halves, u, u1 and u0 what is divided. -/
structure Half (N y p Y n1 n0 u u1 u0 : Int) : Prop where
  hY : Y = y * p
  hp : 1 ≤ p
  hy : 1 ≤ y
  hn : Y = n1 * 4294967296 + n0
  a1 : 2147483648 ≤ n1
  a2 : n1 ≤ 4294967295
  b1 : 0 ≤ n0
  b2 : n0 ≤ 4294967295
  c1 : 0 ≤ u
  c2 : u < Y
  d1 : 0 ≤ u1
  d2 : u1 ≤ 4294967295
  e1 : 0 ≤ u0
  e2 : u0 ≤ 4294967295
  hN : N * p = (u * 4294967296 + u1) * 4294967296 + u0

theorem guess_first (Y n1 n0 u : Int) (hn : Y = n1 * 4294967296 + n0) (a1 : 2147483648 ≤ n1) (b2 : n0 ≤ 4294967295) (c1 : 0 ≤ u) (c2 : u < Y) :
    0 ≤ u / n1 ∧ u / n1 ≤ 4294967297 ∧ u / n1 * n1 + (u - u / n1 * n1) = u ∧ 0 ≤ u - u / n1 * n1 ∧ u - u / n1 * n1 < n1 := by
  have k1 : 0 ≤ u / n1 := Int.ediv_nonneg c1 (by omega)
  have k2 : u / n1 < 4294967298 := (Int.ediv_lt_iff_lt_mul (by omega)).2 (by omega)
  have k3 := Int.emod_add_mul_ediv u n1
  have k4 := Int.emod_nonneg u (b := n1) (by omega)
  have k5 := Int.emod_lt_of_pos u (b := n1) (by omega)
  rw [Int.mul_comm n1] at k3
  omega

theorem mul_parts (q n1 n0 Y : Int) (hn : Y = n1 * 4294967296 + n0) : q * Y = q * n1 * 4294967296 + q * n0 := by
  rw [hn, Int.mul_add, Int.mul_assoc]

/-- The guess is too great where the test says so. -/
theorem guess_more (Y n1 n0 u v q r : Int) (hn : Y = n1 * 4294967296 + n0) (a1 : 2147483648 ≤ n1) (b1 : 0 ≤ n0) (c2 : u < Y) (d2 : v ≤ 4294967295) (k : q * n1 + r = u)
    (h : 4294967296 ≤ q ∨ 4294967296 * r + v < q * n0) : (u * 4294967296 + v) / Y ≤ q - 1 := by
  have e := mul_parts q n1 n0 Y hn
  rcases h with h | h
  · have : (u * 4294967296 + v) / Y < 4294967296 := (Int.ediv_lt_iff_lt_mul (by omega)).2 (by omega)
    omega
  · have : (u * 4294967296 + v) / Y < q := (Int.ediv_lt_iff_lt_mul (by omega)).2 (by omega)
    omega

/-- The guess is not too great where the test says that. -/
theorem guess_less (Y n1 n0 u v q r : Int) (hn : Y = n1 * 4294967296 + n0) (a1 : 2147483648 ≤ n1) (b1 : 0 ≤ n0) (k : q * n1 + r = u)
    (h : q * n0 ≤ 4294967296 * r + v) : q ≤ (u * 4294967296 + v) / Y := by
  have e := mul_parts q n1 n0 Y hn
  exact (Int.le_ediv_iff_mul_le (by omega)).2 (by omega)

theorem guess_end (Y n1 n0 u v q r : Int) (hn : Y = n1 * 4294967296 + n0) (a1 : 2147483648 ≤ n1) (b1 : 0 ≤ n0) (b2 : n0 ≤ 4294967295) (d1 : 0 ≤ v) (k : q * n1 + r = u)
    (q0 : 0 ≤ q) (q1 : q ≤ 4294967296) (hr : 4294967296 ≤ r) : q ≤ (u * 4294967296 + v) / Y := by
  refine guess_less Y n1 n0 u v q r hn a1 b1 k ?_
  have := Int.mul_le_mul q1 b2 b1 (by omega)
  omega

theorem guess_start (Y n1 n0 u v : Int) (hn : Y = n1 * 4294967296 + n0) (a1 : 2147483648 ≤ n1) (b1 : 0 ≤ n0) (b2 : n0 ≤ 4294967295) (c1 : 0 ≤ u) (c2 : u < Y) (d2 : v ≤ 4294967295) :
    (u * 4294967296 + v) / Y ≤ u / n1 := by
  have k3 := Int.emod_add_mul_ediv u n1
  have k5 := Int.emod_lt_of_pos u (b := n1) (by omega)
  have k1 : 0 ≤ u / n1 := Int.ediv_nonneg c1 (by omega)
  have e := mul_parts (u / n1 + 1) n1 n0 Y hn
  have e5 : (u / n1 + 1) * n1 = n1 * (u / n1) + n1 := by rw [Int.add_mul, Int.one_mul, Int.mul_comm]
  rw [e5] at e
  have k6 : 0 ≤ (u / n1 + 1) * n0 := Int.mul_nonneg (by omega) b1
  have : (u * 4294967296 + v) / Y < u / n1 + 1 := (Int.ediv_lt_iff_lt_mul (by omega)).2 (by omega)
  omega
theorem quot_pos (Y u v : Int) (hY : 0 ≤ Y) (c1 : 0 ≤ u) (d1 : 0 ≤ v) : 0 ≤ (u * 4294967296 + v) / Y := Int.ediv_nonneg (by omega) hY

theorem quot_top (Y u v : Int) (hY : 0 < Y) (c2 : u < Y) (d2 : v ≤ 4294967295) : (u * 4294967296 + v) / Y ≤ 4294967295 := by
  have : (u * 4294967296 + v) / Y < 4294967296 := (Int.ediv_lt_iff_lt_mul hY).2 (by omega)
  omega
theorem guess_step (u n1 q r : Int) (k : q * n1 + r = u) : (q - 1) * n1 + (r + n1) = u := by rw [Int.sub_mul, Int.one_mul]; omega
theorem guess_stop (Y n1 n0 u v q r : Int) (hn : Y = n1 * 4294967296 + n0) (a1 : 2147483648 ≤ n1) (b1 : 0 ≤ n0) (b2 : n0 ≤ 4294967295) (d1 : 0 ≤ v) (k : q * n1 + r = u)
    (q0 : 1 ≤ q) (q1 : q ≤ 4294967297) (hr : 4294967296 ≤ r + n1) (h : (u * 4294967296 + v) / Y ≤ q - 1) : q - 1 = (u * 4294967296 + v) / Y := by
  have := guess_end Y n1 n0 u v (q - 1) (r + n1) hn a1 b1 b2 d1 (guess_step u n1 q r k) (by omega) (by omega) hr
  omega

/-- Two quotients of halves make up the whole one. -/
theorem half_whole (N y p Y n1 n0 u u1 u0 : Int) (H : Half N y p Y n1 n0 u u1 u0) :
    (u * 4294967296 + u1) / Y * 4294967296 + ((u * 4294967296 + u1) % Y * 4294967296 + u0) / Y = N / y ∧
    ((u * 4294967296 + u1) % Y * 4294967296 + u0) % Y = N % y * p := by
  have hYp : 0 < Y := by have := H.a1; have := H.hn; have := H.b1; omega
  have e1 := Int.emod_add_mul_ediv (u * 4294967296 + u1) Y
  have e2 : N * p = ((u * 4294967296 + u1) % Y * 4294967296 + u0) + Y * ((u * 4294967296 + u1) / Y * 4294967296) := by
    rw [H.hN]
    conv => lhs; rw [← e1]
    rw [Int.add_mul, Int.mul_assoc]; omega
  have hp := H.hp
  have hy := H.hy
  have e3 : N * p / Y = N / y := by rw [H.hY, Int.mul_ediv_mul_of_pos_left _ _ (by omega)]
  have e4 : N * p % Y = N % y * p := by
    rw [H.hY, Int.mul_comm N p, Int.mul_comm y p, Int.mul_emod_mul_of_pos _ _ (by omega), Int.mul_comm]
  constructor
  · rw [← e3, e2, Int.add_mul_ediv_left _ _ (by omega)]; omega
  · rw [← e4, e2, Int.add_mul_emod_self_left]

theorem pow_cast (n : Nat) : ((2 ^ n : Nat) : Int) = (2 : Int) ^ n := by simp

/-- Whatever is divided, made so that the divisor has its highest bit. -/
theorem norm (h l y s : Nat) (h2 : h < y) (h3 : y < 18446744073709551616) (l1 : l < 18446744073709551616) (hs : s = 64 - Lib.bitLen y) :
    s ≤ 63 ∧ y * 2 ^ s < 18446744073709551616 ∧ 9223372036854775808 ≤ y * 2 ^ s ∧ h * 2 ^ s < 18446744073709551616 ∧ (h * 2 ^ s ||| l / 2 ^ (64 - s)) = h * 2 ^ s + l / 2 ^ (64 - s) ∧ h * 2 ^ s + l / 2 ^ (64 - s) < y * 2 ^ s ∧
    (h * 18446744073709551616 + l) * 2 ^ s = (h * 2 ^ s + l / 2 ^ (64 - s)) * 18446744073709551616 + l * 2 ^ s % 18446744073709551616 := by
  obtain ⟨b4, b2, b1⟩ : 1 ≤ Lib.bitLen y ∧ 2 ^ (Lib.bitLen y - 1) ≤ y ∧ y < 2 ^ Lib.bitLen y := Lib.bitLenAux_bounds 64 y (by omega) (by omega)
  have b3 : Lib.bitLen y ≤ 64 := Lib.bitLen_le y 64 (by omega) (by omega)
  have e1 : 2 ^ (Lib.bitLen y) * 2 ^ s = 18446744073709551616 := by
    rw [← Nat.pow_add, show Lib.bitLen y + s = 64 from by omega]
  have e2 : 2 ^ (Lib.bitLen y - 1) * 2 ^ s = 9223372036854775808 := by
    rw [← Nat.pow_add, show Lib.bitLen y - 1 + s = 63 from by omega]
  have p0 : 0 < 2 ^ s := Nat.two_pow_pos s
  have k1 : y * 2 ^ s < 18446744073709551616 := by rw [← e1]; exact Nat.mul_lt_mul_of_pos_right b1 p0
  have k2 : 9223372036854775808 ≤ y * 2 ^ s := by rw [← e2]; exact Nat.mul_le_mul_right _ b2
  have k3 : (h + 1) * 2 ^ s ≤ y * 2 ^ s := Nat.mul_le_mul_right _ h2
  rw [Nat.add_mul, Nat.one_mul] at k3
  have e3 : 2 ^ (64 - s) * 2 ^ s = 18446744073709551616 := by
    rw [← Nat.pow_add, show 64 - s + s = 64 from by omega]
  have k4 : l / 2 ^ (64 - s) < 2 ^ s := by
    rw [Nat.div_lt_iff_lt_mul (Nat.two_pow_pos _), Nat.mul_comm, e3]; exact l1
  have k5 : l * 2 ^ s / 18446744073709551616 = l / 2 ^ (64 - s) := by
    rw [← e3, Nat.mul_div_mul_right _ _ p0]
  refine ⟨by omega, k1, k2, by omega, ?_, by omega, ?_⟩
  · rw [Nat.mul_comm h, Nat.two_pow_add_eq_or_of_lt k4]
  · have := Nat.mod_add_div (l * 2 ^ s) 18446744073709551616
    rw [k5] at this
    rw [Nat.add_mul, Nat.add_mul, Nat.mul_right_comm h]
    omega
end Go.Proofs.YtnnjbonejbmgdaaGreat.Wide

/- The library's contracts at this program: how many leading zeros, how many bits, and the product of two words, both words of it. Conditions: as each fact states them. -/
namespace Go.Proofs
open Go.Shelf
def Tryz.lays134_ren : Go.Shelf.Ren := ⟨fun | 134 => 158 | 129 => 178 | n => n, fun | 53 => 32 | 3 => 3 | 4 => 4 | 46 => 196 | 5 => 5 | 9 => 9 | n => n, fun | n => n⟩
theorem Tryz.lays134 : Go.Proofs.Lays.n134 Tryz.prog Tryz.lays134_ren := {
  mixed := by kernel_rfl
  f129 := Tryz.func178.trans (congrArg some (by kernel_rfl))
  f134 := Tryz.func158.trans (congrArg some (by kernel_rfl))
  t3 := Tryz.underlying3
  a3 := Tryz.isAgg3
  z3 := Tryz.sizeOf3
  v3 := Tryz.zeroValue3
  t4 := Tryz.underlying4
  a4 := Tryz.isAgg4
  z4 := Tryz.sizeOf4
  v4 := Tryz.zeroValue4
  t5 := Tryz.underlying5
  a5 := Tryz.isAgg5
  z5 := Tryz.sizeOf5
  v5 := Tryz.zeroValue5
  t9 := Tryz.underlying9
  a9 := Tryz.isAgg9
  z9 := Tryz.sizeOf9
  v9 := Tryz.zeroValue9
  t46 := Tryz.underlying196
  a46 := Tryz.isAgg196
  z46 := Tryz.sizeOf196
  v46 := Tryz.zeroValue196
  t53 := Tryz.underlying32
  a53 := Tryz.isAgg32
  z53 := Tryz.sizeOf32
  v53 := Tryz.zeroValue32 }
theorem Tryz.bits_LeadingZeros64 (x : Int) (w : World) (h0 : 0 ≤ x) (h1 : x ≤ 18446744073709551615) :
    Calls Tryz.prog 158 #[.int .u64 x] w fun e w' => e = .returned (.int .i64 (64 - (Lib.bitLen x.toNat : Int))) ∧ w' = w := Any.bits_LeadingZeros64 Tryz.lays134 x w h0 h1
def Tryz.lays129_ren : Go.Shelf.Ren := ⟨fun | 129 => 178 | n => n, fun | 53 => 32 | 3 => 3 | 4 => 4 | 46 => 196 | 5 => 5 | 9 => 9 | n => n, fun | n => n⟩
theorem Tryz.lays129 : Go.Proofs.Lays.n129 Tryz.prog Tryz.lays129_ren := {
  mixed := by kernel_rfl
  f129 := Tryz.func178.trans (congrArg some (by kernel_rfl))
  t3 := Tryz.underlying3
  a3 := Tryz.isAgg3
  z3 := Tryz.sizeOf3
  v3 := Tryz.zeroValue3
  t4 := Tryz.underlying4
  a4 := Tryz.isAgg4
  z4 := Tryz.sizeOf4
  v4 := Tryz.zeroValue4
  t5 := Tryz.underlying5
  a5 := Tryz.isAgg5
  z5 := Tryz.sizeOf5
  v5 := Tryz.zeroValue5
  t9 := Tryz.underlying9
  a9 := Tryz.isAgg9
  z9 := Tryz.sizeOf9
  v9 := Tryz.zeroValue9
  t46 := Tryz.underlying196
  a46 := Tryz.isAgg196
  z46 := Tryz.sizeOf196
  v46 := Tryz.zeroValue196
  t53 := Tryz.underlying32
  a53 := Tryz.isAgg32
  z53 := Tryz.sizeOf32
  v53 := Tryz.zeroValue32 }
theorem Tryz.bits_Len64 (x : Int) (w : World) (h0 : 0 ≤ x) (h1 : x ≤ 18446744073709551615) :
    Calls Tryz.prog 178 #[.int .u64 x] w fun e w' => e = .returned (.int .i64 (Lib.bitLen x.toNat)) ∧ w' = w := Any.bits_Len64 Tryz.lays129 x w h0 h1
def Tryz.lays264_ren : Go.Shelf.Ren := ⟨fun | 264 => 157 | n => n, fun | 53 => 32 | 46 => 196 | n => n, fun | n => n⟩
theorem Tryz.lays264 : Go.Proofs.Lays.n264 Tryz.prog Tryz.lays264_ren := {
  mixed := by kernel_rfl
  f264 := Tryz.func157.trans (congrArg some (by kernel_rfl))
  t46 := Tryz.underlying196
  a46 := Tryz.isAgg196
  z46 := Tryz.sizeOf196
  v46 := Tryz.zeroValue196
  t53 := Tryz.underlying32
  a53 := Tryz.isAgg32
  z53 := Tryz.sizeOf32
  v53 := Tryz.zeroValue32 }
open Go.RowKit Go.Lib in
theorem Tryz.bits_Mul64 (x y : Nat) (hx : x < 18446744073709551616) (hy : y < 18446744073709551616) (w : World) :
    Calls Tryz.prog 157 #[.int .u64 x, .int .u64 y] w fun e w' => e = .returned (.tuple #[.int .u64 ((x * y / 18446744073709551616 : Nat) : Int), .int .u64 ((x * y % 18446744073709551616 : Nat) : Int)]) ∧ w' = w := Any.bits_Mul64 Tryz.lays264 x y hx hy w
end Go.Proofs

/- What math/bits.Div64 returns, where the upper word is below the divisor: quotient and rest of the whole. Conditions: words of 64 bits. -/
namespace Go.Proofs.YtnnjbonejbmgdaaGreat.Wide
open Go.ChangeShapes Go.WideShapes Go.ChangeAt Go.RowKit
set_option linter.unusedVariables false

theorem lead (y s : Int) (w : World) (h0 : 0 ≤ y) (h1 : y ≤ 18446744073709551615) (hs : s = 64 - (Lib.bitLen y.toNat : Int)) :
    Calls Tryz.prog 158 #[.int .u64 y] w fun e w' => e = .returned (.int .i64 s) ∧ w = w' := by
  subst hs
  refine (Tryz.bits_LeadingZeros64 y w h0 h1).mono ?_
  rintro e w' ⟨rfl, rfl⟩; exact ⟨rfl, rfl⟩

theorem norm_int (h l y s : Int) (h1 : 0 ≤ h) (h2 : h < y) (h3 : y ≤ 18446744073709551615) (l0 : 0 ≤ l) (l1 : l ≤ 18446744073709551615) (hs : s = 64 - (Lib.bitLen y.toNat : Int)) :
    Half (h * 18446744073709551616 + l) y (2 ^ s.toNat) (IntKind.u64.wrap (y * 2 ^ s.toNat)) (IntKind.u64.wrap (y * 2 ^ s.toNat) / 4294967296) (bits BinOp.and IntKind.u64 (IntKind.u64.wrap (y * 2 ^ s.toNat)) 4294967295)
      (bits BinOp.or IntKind.u64 (IntKind.u64.wrap (h * 2 ^ s.toNat)) (l / 2 ^ (64 - s).toNat)) (IntKind.u64.wrap (l * 2 ^ s.toNat) / 4294967296) (bits BinOp.and IntKind.u64 (IntKind.u64.wrap (l * 2 ^ s.toNat)) 4294967295) := by
  obtain ⟨h, rfl⟩ := Int.eq_ofNat_of_zero_le h1
  obtain ⟨l, rfl⟩ := Int.eq_ofNat_of_zero_le l0
  obtain ⟨y, rfl⟩ := Int.eq_ofNat_of_zero_le (show 0 ≤ y by omega)
  rw [Int.toNat_natCast] at hs
  have b3 : Lib.bitLen y ≤ 64 := Lib.bitLen_le y 64 (by omega) (by omega)
  obtain ⟨k, hk⟩ : ∃ k : Nat, k = 64 - Lib.bitLen y := ⟨_, rfl⟩
  obtain rfl : s = (k : Int) := by omega
  obtain ⟨n1, n2, n3, n4, n5, n6, n7⟩ := norm h l y k (by omega) (by omega) (by omega) hk
  have e64 : ((64 : Int) - (k : Int)).toNat = 64 - k := by omega
  rw [Int.toNat_natCast, e64]
  have p0 : 0 < 2 ^ k := Nat.two_pow_pos k
  have ep : (2 : Int) ^ k = ((2 ^ k : Nat) : Int) := (pow_cast k).symm
  have eq : (2 : Int) ^ (64 - k) = ((2 ^ (64 - k) : Nat) : Int) := (pow_cast _).symm
  rw [ep, eq, ← Int.natCast_mul, ← Int.natCast_mul, ← Int.natCast_mul, Mul64.wrapN _ n2, Mul64.wrapN _ n4, Mul64.wrapM, Mul64.maskN _ n2, Mul64.maskN _ (by omega), ← Int.natCast_ediv, bits_or_u64_nat _ _ n4 (by omega), n5]
  generalize 2 ^ k = p at *
  generalize l / 2 ^ (64 - k) = g at *
  have n7' : (((h * 18446744073709551616 + l) * p : Nat) : Int) = (((h * p + g) * 18446744073709551616 + l * p % 18446744073709551616 : Nat) : Int) := by rw [n7]
  rw [Int.natCast_mul (h * 18446744073709551616 + l)] at n7'
  generalize l * p = lp at *
  generalize hyp : y * p = yp at *
  generalize h * p = hp at *
  refine ⟨?_, by omega, by omega, by omega, by omega, by omega, by omega, by omega, by omega, by omega, by omega, by omega, by omega, by omega, ?_⟩
  · rw [← hyp]; exact Int.natCast_mul _ _
  · have : ((h * 18446744073709551616 + l : Nat) : Int) = (h : Int) * 18446744073709551616 + (l : Int) := by omega
    rw [← this, n7']
    clear n7 n7' this hs hk h2 h3 l1 ep eq
    omega

theorem wrapU (n : Int) (h0 : 0 ≤ n) (h1 : n ≤ 18446744073709551615) : IntKind.u64.wrap n = n := by rw [IntKind.wrap_u64]; omega
theorem first_rest (u n1 : Int) (h : 1 ≤ n1) (c1 : 0 ≤ u) (c2 : u ≤ 18446744073709551615) (c3 : 0 ≤ u - u / n1 * n1) :
    Value.int .u64 (IntKind.u64.wrap (u - IntKind.u64.wrap (u / n1 * n1))) = Value.int .u64 (u - u / n1 * n1) := by
  have k1 : 0 ≤ u / n1 * n1 := Int.mul_nonneg (Int.ediv_nonneg c1 (by omega)) (by omega)
  rw [wrapU (u / n1 * n1) k1 (by omega), wrapU _ c3 (by omega)]
theorem rest_word (Y u v q : Int) (hq : q = (u * 4294967296 + v) / Y) (hY : 0 < Y) (h : Y ≤ 18446744073709551615) :
    Value.int .u64 (IntKind.u64.wrap (IntKind.u64.wrap (IntKind.u64.wrap (u * 4294967296) + v) - IntKind.u64.wrap (q * Y))) = Value.int .u64 ((u * 4294967296 + v) % Y) := by
  have e := Int.emod_add_mul_ediv (u * 4294967296 + v) Y
  have k1 := Int.emod_nonneg (u * 4294967296 + v) (b := Y) (by omega)
  have k2 := Int.emod_lt_of_pos (u * 4294967296 + v) hY
  rw [← hq, Int.mul_comm Y q] at e
  simp only [IntKind.wrap_u64]
  congr 1
  generalize q * Y = z at *
  omega

theorem div_end (N y p Y n1 n0 u u1 u0 q q0 v : Int) (H : Half N y p Y n1 n0 u u1 u0) (hq : q = (u * 4294967296 + u1) / Y) (hv : v = (u * 4294967296 + u1) % Y) (hq0 : q0 = (v * 4294967296 + u0) / Y) (h : Y ≤ 18446744073709551615) :
    q * 4294967296 + q0 = N / y ∧ IntKind.u64.wrap (IntKind.u64.wrap (IntKind.u64.wrap (v * 4294967296) + u0) - IntKind.u64.wrap (q0 * Y)) / p = N % y := by
  have hY : 0 < Y := by have := H.a1; have := H.hn; have := H.b1; omega
  obtain ⟨z1, z2⟩ := half_whole N y p Y n1 n0 u u1 u0 H
  have z3 := rest_word Y v u0 q0 hq0 hY h
  rw [Value.int.injEq] at z3
  rw [← hq, ← hv, ← hq0] at z1
  rw [← hv] at z2
  refine ⟨z1, ?_⟩
  rw [z3.2, z2, Int.mul_ediv_cancel _ (by have := H.hp; omega)]

def Normed (N y p : Int) (w : World) (t2 t9 t10 t11 t13 t14 : Value) (wx : World) : Prop :=
  ∃ Y n1 n0 u u1 u0 : Int, Half N y p Y n1 n0 u u1 u0 ∧ t2 = .int .u64 Y ∧ t9 = .int .u64 n1 ∧ t10 = .int .u64 n0 ∧ t11 = .int .u64 u ∧ t13 = .int .u64 u1 ∧ t14 = .int .u64 u0 ∧ w = wx

/-- A guess of a half's quotient; and the quotient. -/
def Guess (Y n1 n0 u v : Int) (w : World) (k : Nat) (t15 t16 : Value) (wx : World) : Prop :=
  ∃ q r : Int, q * n1 + r = u ∧ (u * 4294967296 + v) / Y ≤ q ∧ q ≤ 4294967297 ∧ 0 ≤ r ∧ r < 4294967296 ∧ k = (4294967296 - r).toNat ∧ t15 = .int .u64 q ∧ t16 = .int .u64 r ∧ w = wx
def Guessed (Y u v : Int) (w : World) (t15 t16 : Value) (wx : World) : Prop :=
  ∃ q r : Int, q = (u * 4294967296 + v) / Y ∧ t15 = .int .u64 q ∧ t16 = .int .u64 r ∧ w = wx

def Rested (Y u v : Int) (w : World) (t17 : Value) (wx : World) : Prop := ∃ r : Int, r = (u * 4294967296 + v) % Y ∧ t17 = .int .u64 r ∧ w = wx

def Pair (a b : Int) (w : World) (e : Ending) (w' : World) : Prop := e = .returned (.tuple #[.int .u64 a, .int .u64 b]) ∧ w = w'
def PairFresh (a b : Int) (w : World) (e : Ending) (w' : World) : Prop := e = .returned (.tuple #[.int .u64 a, .int .u64 b]) ∧ Below w.heap.size w w'
theorem pair_of {a b c d : Int} {w : World} (h : a = c) (k : b = d) : Pair c d w (.returned (.tuple #[.int .u64 a, .int .u64 b])) w := by subst h; subst k; exact ⟨rfl, rfl⟩

set_option maxRecDepth 100000 in
theorem div64 (h l y s : Int) (w : World) (h1 : 1 ≤ h) (h2 : h < y) (h3 : y ≤ 18446744073709551615) (l0 : 0 ≤ l) (l1 : l ≤ 18446744073709551615) (HS : Hid (s = 64 - (Lib.bitLen y.toNat : Int))) (s0 : 0 ≤ s) (s1 : s ≤ 63) :
    Calls Tryz.prog 127 #[.int .u64 h, .int .u64 l, .int .u64 y] w (Pair ((h * 18446744073709551616 + l) / y) ((h * 18446744073709551616 + l) % y) w) := by
  have y0 : (y == 0) = false := by simp; omega
  have e0 : (h == 0) = false := by simp; omega
  go_enter Tryz.func127, Tryz.ntmps127
  go_upto_region 14 with (go_at_call 158; refine (lead y s _ (by omega) h3 HS.out).mono ?_; rintro e w' ⟨rfl, rfl⟩)
  go_cut [2, 9, 10, 11, 13, 14] (fun t2 t9 t10 t11 t13 t14 wx => Normed (h * 18446744073709551616 + l) y (2 ^ s.toNat) w t2 t9 t10 t11 t13 t14 wx)
  case first =>
    go_wp2
    go_meet
    exact ⟨_, _, _, _, _, _, norm_int h l y s (by omega) h2 h3 l0 l1 HS.out, rfl, rfl, rfl, rfl, rfl, rfl, rfl⟩
  case rest =>
    obtain ⟨Y, n1, n0, u, u1, u0, H, rfl, rfl, rfl, rfl, rfl, rfl, rfl⟩ := hcut
    have a1 := H.a1; have a2 := H.a2; have b1 := H.b1; have b2 := H.b2; have c1 := H.c1; have c2 := H.c2; have d1 := H.d1; have d2 := H.d2; have e1 := H.e1; have e2 := H.e2
    have hyy : Y ≤ 18446744073709551615 := by have := H.hn; omega
    obtain ⟨g1, g2, g3, g4, g5⟩ := guess_first Y n1 n0 u H.hn a1 b2 c1 c2
    have nz : (n1 == 0) = false := by simp; omega
    have G3 := Lib.hid g3
    clear g3
    go_upto_block 0 with fail
    go_cut [15, 16] (fun t15 t16 wx => Guessed Y u u1 w t15 t16 wx)
    case first =>
      go_wp2_with fail
      go_loopg [15, 16] (4294967296 - (u - u / n1 * n1)).toNat (fun k t15 t16 wx => Guess Y n1 n0 u u1 w k t15 t16 wx)
      case atStart => exact ⟨_, _, G3.out, guess_start Y n1 n0 u u1 H.hn a1 b1 b2 c1 c2 d2, g2, g4, by omega, rfl, rfl, first_rest u n1 (by omega) c1 (by omega) (by omega), rfl⟩
      case round =>
        obtain ⟨q, r, k1, k2, k3, k4, k5, rfl, rfl, rfl, rfl⟩ := hrel
        have K1 := Lib.hid k1
        have q0 : 0 ≤ q := Int.le_trans (quot_pos Y u u1 (by omega) c1 d1) k2
        have K2 := Lib.hid k2
        clear k1 k2 g1 g2 g4 g5 G3
        by_cases hq : 4294967296 ≤ q
        · have K3 := Lib.hid (guess_more Y n1 n0 u u1 q r H.hn a1 b1 c2 d2 K1.out (Or.inl hq))
          by_cases hb : 4294967296 ≤ r + n1
          · go_wp2_with fail
            go_meet
            exact ⟨_, _, guess_stop Y n1 n0 u u1 q r H.hn a1 b1 b2 d1 K1.out (by omega) (by omega) hb K3.out, rfl, rfl, rfl⟩
          · go_wp2_with fail
            go_roundg (4294967296 - (r + n1)).toNat
            case measure => omega
            case rel => exact ⟨_, _, guess_step u n1 q r K1.out, K3.out, by omega, by omega, by omega, rfl, rfl, rfl, rfl⟩
        · have hx0 : 0 ≤ q * n0 := Int.mul_nonneg q0 b1
          have hx1 : q * n0 ≤ 18446744065119617025 := by have := Int.mul_le_mul (show q ≤ 4294967295 by omega) b2 b1 (by omega); omega
          by_cases hx : 4294967296 * r + u1 < q * n0
          · have K3 := Lib.hid (guess_more Y n1 n0 u u1 q r H.hn a1 b1 c2 d2 K1.out (Or.inr hx))
            have q1 : 1 ≤ q := by have := K3.out; have := quot_pos Y u u1 (by omega) c1 d1; omega
            by_cases hb : 4294967296 ≤ r + n1
            · go_wp2_with fail
              go_meet
              exact ⟨_, _, guess_stop Y n1 n0 u u1 q r H.hn a1 b1 b2 d1 K1.out (by omega) (by omega) hb K3.out, rfl, rfl, rfl⟩
            · go_wp2_with fail
              go_roundg (4294967296 - (r + n1)).toNat
              case measure => omega
              case rel => exact ⟨_, _, guess_step u n1 q r K1.out, K3.out, by omega, by omega, by omega, rfl, rfl, rfl, rfl⟩
          · have hz := guess_less Y n1 n0 u u1 q r H.hn a1 b1 K1.out (by omega)
            have K3 := Lib.hid hz
            clear hz
            go_wp2_with fail
            go_meet
            exact ⟨_, _, Int.le_antisymm K3.out K2.out, rfl, rfl, rfl⟩
    case rest =>
      obtain ⟨q, r, hq, rfl, rfl, rfl⟩ := hcut
      have v1 : 0 ≤ (u * 4294967296 + u1) % Y := Int.emod_nonneg _ (by omega)
      have v2 : (u * 4294967296 + u1) % Y < Y := Int.emod_lt_of_pos _ (by omega)
      have p1 : 0 ≤ q := by rw [hq]; exact quot_pos Y u u1 (by omega) c1 d1
      have p2 : q ≤ 4294967295 := by rw [hq]; exact quot_top Y u u1 (by omega) c2 d2
      have HQ := Lib.hid hq
      clear hq g1 g2 g4 g5 G3
      go_upto_region 21 with fail
      go_cut [17] (fun t17 wx => Rested Y u u1 w t17 wx)
      case first =>
        go_wp2_with fail
        go_meet
        exact ⟨_, rfl, rest_word Y u u1 q HQ.out (by omega) hyy, rfl⟩
      case rest =>
        obtain ⟨v, hv, rfl, rfl⟩ := hcut
        rw [← hv] at v1 v2
        have HV := Lib.hid hv
        clear hv
        clear c1 c2 d1 d2
        have c1 := v1; have c2 := v2; have d1 := e1; have d2 := e2
        obtain ⟨g1, g2, g3, g4, g5⟩ := guess_first Y n1 n0 v H.hn a1 b2 c1 c2
        have G3 := Lib.hid g3
        clear g3
        go_upto_block 2 with fail
        go_cut [18, 16] (fun t15 t16 wx => Guessed Y v u0 w t15 t16 wx)
        case first =>
          go_wp2_with fail
          go_loopg [18, 16] (4294967296 - (v - v / n1 * n1)).toNat (fun k t15 t16 wx => Guess Y n1 n0 v u0 w k t15 t16 wx)
          case atStart => exact ⟨_, _, G3.out, guess_start Y n1 n0 v u0 H.hn a1 b1 b2 c1 c2 d2, g2, g4, by omega, rfl, rfl, first_rest v n1 (by omega) c1 (by omega) (by omega), rfl⟩
          case round =>
            obtain ⟨q, r, k1, k2, k3, k4, k5, rfl, rfl, rfl, rfl⟩ := hrel
            have K1 := Lib.hid k1
            have q0 : 0 ≤ q := Int.le_trans (quot_pos Y v u0 (by omega) c1 d1) k2
            have K2 := Lib.hid k2
            clear k1 k2 g1 g2 g4 g5 G3
            by_cases hq : 4294967296 ≤ q
            · have K3 := Lib.hid (guess_more Y n1 n0 v u0 q r H.hn a1 b1 c2 d2 K1.out (Or.inl hq))
              by_cases hb : 4294967296 ≤ r + n1
              · go_wp2_with fail
                go_meet
                exact ⟨_, _, guess_stop Y n1 n0 v u0 q r H.hn a1 b1 b2 d1 K1.out (by omega) (by omega) hb K3.out, rfl, rfl, rfl⟩
              · go_wp2_with fail
                go_roundg (4294967296 - (r + n1)).toNat
                case measure => omega
                case rel => exact ⟨_, _, guess_step v n1 q r K1.out, K3.out, by omega, by omega, by omega, rfl, rfl, rfl, rfl⟩
            · have hx0 : 0 ≤ q * n0 := Int.mul_nonneg q0 b1
              have hx1 : q * n0 ≤ 18446744065119617025 := by have := Int.mul_le_mul (show q ≤ 4294967295 by omega) b2 b1 (by omega); omega
              by_cases hx : 4294967296 * r + u0 < q * n0
              · have K3 := Lib.hid (guess_more Y n1 n0 v u0 q r H.hn a1 b1 c2 d2 K1.out (Or.inr hx))
                have q1 : 1 ≤ q := by have := K3.out; have := quot_pos Y v u0 (by omega) c1 d1; omega
                by_cases hb : 4294967296 ≤ r + n1
                · go_wp2_with fail
                  go_meet
                  exact ⟨_, _, guess_stop Y n1 n0 v u0 q r H.hn a1 b1 b2 d1 K1.out (by omega) (by omega) hb K3.out, rfl, rfl, rfl⟩
                · go_wp2_with fail
                  go_roundg (4294967296 - (r + n1)).toNat
                  case measure => omega
                  case rel => exact ⟨_, _, guess_step v n1 q r K1.out, K3.out, by omega, by omega, by omega, rfl, rfl, rfl, rfl⟩
              · have hz := guess_less Y n1 n0 v u0 q r H.hn a1 b1 K1.out (by omega)
                have K3 := Lib.hid hz
                clear hz
                go_wp2_with fail
                go_meet
                exact ⟨_, _, Int.le_antisymm K3.out K2.out, rfl, rfl, rfl⟩
        case rest =>
          obtain ⟨q0, r0, hq0, rfl, rfl, rfl⟩ := hcut
          have p3 : 0 ≤ q0 := by rw [hq0]; exact quot_pos Y v u0 (by omega) c1 d1
          have p4 : q0 ≤ 4294967295 := by rw [hq0]; exact quot_top Y v u0 (by omega) c2 d2
          have HQ0 := Lib.hid hq0
          clear hq0 g1 g2 g4 g5 G3
          go_wp2_with fail
          go_ret2
          obtain ⟨z1, z2⟩ := div_end _ y _ Y n1 n0 u u1 u0 q q0 v H HQ.out HV.out HQ0.out hyy
          exact pair_of z1 z2

set_option maxRecDepth 100000 in
theorem div64_low (l y : Int) (w : World) (h2 : 1 ≤ y) (h3 : y ≤ 18446744073709551615) (l0 : 0 ≤ l) (l1 : l ≤ 18446744073709551615) :
    Calls Tryz.prog 127 #[.int .u64 0, .int .u64 l, .int .u64 y] w (PairFresh (l / y) (l % y) w) := by
  have y0 : (y == 0) = false := by simp; omega
  go_enter Tryz.func127, Tryz.ntmps127
  go_wp2
  go_quiet (fail)
  go_wp2
  go_ret2
  exact ⟨rfl, ⟨rfl, rfl, rfl, Nat.le_refl _, fun _ _ => rfl⟩⟩

theorem div64_any (h l y : Int) (w : World) (h1 : 0 ≤ h) (h2 : h < y) (h3 : y ≤ 18446744073709551615) (l0 : 0 ≤ l) (l1 : l ≤ 18446744073709551615) :
    Calls Tryz.prog 127 #[.int .u64 h, .int .u64 l, .int .u64 y] w (PairFresh ((h * 18446744073709551616 + l) / y) ((h * 18446744073709551616 + l) % y) w) := by
  by_cases h0 : h = 0
  · subst h0
    have := div64_low l y w (by omega) h3 l0 l1
    rwa [Int.zero_mul, Int.zero_add]
  · have b3 : Lib.bitLen y.toNat ≤ 64 := Lib.bitLen_le y.toNat 64 (by omega) (by omega)
    have b4 : 1 ≤ Lib.bitLen y.toNat := (Lib.bitLenAux_bounds 64 y.toNat (by omega) (by omega)).1
    refine (div64 h l y _ w (by omega) h2 h3 l0 l1 (Lib.hid rfl) (by omega) (by omega)).mono ?_
    rintro e w' ⟨rfl, rfl⟩; exact ⟨rfl, Below.refl _ w⟩
end Go.Proofs.YtnnjbonejbmgdaaGreat.Wide

/- What wide.multiply and wide.MulDiv return, and that nothing that lay there before has changed: at all words of 64 bits. Conditions: each argument is a number of its kind. -/
namespace Go.Proofs.YtnnjbonejbmgdaaGreat.Wide
open Go.ChangeShapes Go.WideShapes Go.ChangeAt Go.RowKit
set_option linter.unusedVariables false

def hi (a b : Int) : Int := a * b / 18446744073709551616
def lo (a b : Int) : Int := a * b % 18446744073709551616

theorem mul64 (a b : Int) (w : World) (ha : U64 a) (hb : U64 b) :
    Calls Tryz.prog 157 #[.int .u64 a, .int .u64 b] w (Pair (hi a b) (lo a b) w) := by
  unfold U64 at ha hb
  obtain ⟨a, rfl⟩ := Int.eq_ofNat_of_zero_le ha.1
  obtain ⟨b, rfl⟩ := Int.eq_ofNat_of_zero_le hb.1
  refine (Tryz.bits_Mul64 a b (by omega) (by omega) w).mono ?_
  rintro e w' ⟨rfl, rfl⟩
  refine pair_of ?_ ?_
  · unfold hi; rw [← Int.natCast_mul]; omega
  · unfold lo; rw [← Int.natCast_mul]; omega

theorem prod_bd (a b : Int) (ha : U64 a) (hb : U64 b) : 0 ≤ a * b ∧ a * b ≤ 340282366920938463426481119284349108225 := by
  unfold U64 at ha hb
  refine ⟨Int.mul_nonneg ha.1 hb.1, ?_⟩
  have := Int.mul_le_mul ha.2 hb.2 hb.1 (by omega)
  omega
theorem hi_bd (a b : Int) (ha : U64 a) (hb : U64 b) : U64 (hi a b) := by
  have := prod_bd a b ha hb
  unfold U64 hi; omega
theorem lo_bd (a b : Int) (ha : U64 a) (hb : U64 b) : U64 (lo a b) := by
  have := prod_bd a b ha hb
  unfold U64 lo; omega
theorem hi_lo (a b : Int) : hi a b * 18446744073709551616 + lo a b = a * b := by unfold hi lo; omega

def AggFresh (a b : Int) (w : World) (e : Ending) (w' : World) : Prop := e = .returned (.agg #[.int .u64 a, .int .u64 b]) ∧ Below w.heap.size w w'

theorem multiply (a b : Int) (w : World) (ha : U64 a) (hb : U64 b) :
    Calls Tryz.prog 126 #[.int .u64 a, .int .u64 b] w (AggFresh (hi a b) (lo a b) w) := by
  go_enter Tryz.func126, Tryz.ntmps126
  go_wp2_with (go_at_call 157; refine (mul64 a b _ ha hb).mono ?_; rintro e w' ⟨rfl, rfl⟩)
  refine bodyPost_ret (v := .agg #[.int .u64 (hi a b), .int .u64 (lo a b)]) (by simp [results, Tryz.results126, go_sem]) rfl ⟨rfl, ?_⟩
  go_grown

def TripleFresh (a b : Int) (is : Bool) (w : World) (e : Ending) (w' : World) : Prop := e = .returned (.tuple #[.int .u64 a, .int .u64 b, .bool is]) ∧ Below w.heap.size w w'
theorem triple_of {a b c d : Int} {x y : Bool} {w w' : World} (h : a = c) (k : b = d) (l : x = y) (g : Below w.heap.size w w') : TripleFresh c d y w (.returned (.tuple #[.int .u64 a, .int .u64 b, .bool x])) w' := by subst h; subst k; subst l; exact ⟨rfl, g⟩
theorem fresh_trans {a b c : World} (h : Below a.heap.size a b) (k : Below b.heap.size b c) : Below a.heap.size a c := h.trans (k.mono h.size)

theorem can_iff (a b c : Int) (ha : U64 a) (hb : U64 b) (hc : U64 c) : can a b c = true ↔ hi a b < c := by
  have p := prod_bd a b ha hb
  unfold U64 at hc
  unfold can hi
  rw [decide_eq_true_iff]
  constructor
  · rintro ⟨h1, h2⟩
    have : a * b < 18446744073709551616 * c := (Int.ediv_lt_iff_lt_mul (by omega)).1 (by omega)
    omega
  · intro h
    have h1 : 1 ≤ c := by omega
    refine ⟨h1, ?_⟩
    have : a * b / c < 18446744073709551616 := (Int.ediv_lt_iff_lt_mul (by omega)).2 (by omega)
    omega
theorem quo_in {a b c : Int} (h : can a b c = true) : quo a b c = a * b / c := if_pos (decide_eq_true_iff.1 h)
theorem rst_in {a b c : Int} (h : can a b c = true) : rst a b c = a * b % c := if_pos (decide_eq_true_iff.1 h)
theorem quo_out {a b c : Int} (h : can a b c = false) : quo a b c = 0 := if_neg (decide_eq_false_iff_not.1 h)
theorem rst_out {a b c : Int} (h : can a b c = false) : rst a b c = 0 := if_neg (decide_eq_false_iff_not.1 h)

def NumFresh (a : Int) (is : Bool) (w : World) (e : Ending) (w' : World) : Prop := e = .returned (.tuple #[.int .u64 a, .bool is]) ∧ Below w.heap.size w w'
theorem num_of {a c : Int} {x y : Bool} {w w' : World} (h : a = c) (l : x = y) (g : Below w.heap.size w w') : NumFresh c y w (.returned (.tuple #[.int .u64 a, .bool x])) w' := by subst h; subst l; exact ⟨rfl, g⟩
theorem quo_bd (a b c : Int) (ha : U64 a) (hb : U64 b) (hc : U64 c) : U64 (quo a b c) := by
  have p := prod_bd a b ha hb
  unfold quo; unfold U64 at *
  split
  · rename_i h; exact ⟨Int.ediv_nonneg p.1 (by omega), h.2⟩
  · omega
theorem rst_bd (a b c : Int) (ha : U64 a) (hb : U64 b) (hc : U64 c) : U64 (rst a b c) := by
  unfold rst; unfold U64 at *
  split
  · rename_i h
    have h1 := Int.emod_nonneg (a * b) (b := c) (by omega)
    have h2 := Int.emod_lt_of_pos (a * b) (b := c) (by omega)
    omega
  · omega

theorem mulDiv (a b c : Int) (w : World) (ha : U64 a) (hb : U64 b) (hc : U64 c) :
    Calls Tryz.prog 84 #[.int .u64 a, .int .u64 b, .int .u64 c] w (TripleFresh (quo a b c) (rst a b c) (can a b c) w) := by
  have k := can_iff a b c ha hb hc
  have hh := hi_bd a b ha hb
  have hl := lo_bd a b ha hb
  have HE := Lib.hid (hi_lo a b)
  unfold U64 at hc hh hl
  obtain ⟨c1, c2⟩ := hc; obtain ⟨d1, d2⟩ := hh; obtain ⟨e1, e2⟩ := hl
  by_cases h : hi a b < c
  · have K := Lib.hid (k.2 h)
    clear k
    go_enter Tryz.func84, Tryz.ntmps84
    go_wp2_with (first
      | (go_at_call 126; refine (multiply a b _ ha hb).mono ?_; rintro e w1 ⟨rfl, hg⟩; have hz := hg.size)
      | (go_at_call 127; refine (div64_any _ _ _ _ d1 h c2 e1 e2).mono ?_; rintro e w2 ⟨rfl, hg2⟩))
    go_ret3
    refine triple_of ?_ ?_ ?_ ?_
    · rw [quo_in K.out, HE.out]
    · rw [rst_in K.out, HE.out]
    · rw [K.out]
    · refine fresh_trans ?_ hg2
      go_grown
  · have K : Hid (can a b c = false) := Lib.hid (by rw [← Bool.not_eq_true, k]; exact h)
    clear k
    go_enter Tryz.func84, Tryz.ntmps84
    go_wp2_with (first
      | (go_at_call 126; refine (multiply a b _ ha hb).mono ?_; rintro e w1 ⟨rfl, hg⟩; have hz := hg.size))
    go_ret3
    refine triple_of (quo_out K.out).symm (rst_out K.out).symm K.out.symm ?_
    go_grown

end Go.Proofs.YtnnjbonejbmgdaaGreat.Wide
