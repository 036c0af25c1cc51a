/- Events and their text, numbers alone: words, fields, figures, lines. Conditions: as each fact states them. -/
import Derived.Test.YtikdhfedidknpaaDoorRows
import Derived.Lib.Hide
import Derived.Lib.ItoaNum
import Derived.Lib.ItoaLen
namespace Go.Proofs.YtikdhfedidknpaaDoor.Event
open Go.RowKit
set_option linter.unusedVariables false
set_option linter.unusedSimpArgs false

abbrev I64 (x : Int) : Prop := -9223372036854775808 ≤ x ∧ x ≤ 9223372036854775807
/-- An event: its kind, and what its fields may be. -/
structure Ev where
  k : Int
  a : Int
  b : Int
  n : Int
  m : Int
  s : Nat
deriving DecidableEq
def words : List (List UInt8) := [[103, 114, 111, 117, 112], [100, 114, 111, 112], [109, 111, 118, 101], [115, 104, 97, 114, 101, 115], [113, 117, 111, 116, 97], [115, 112, 97, 119, 110], [119, 97, 107, 101], [98, 108, 111, 99, 107], [121, 105, 101, 108, 100], [101, 120, 105, 116], [116, 105, 99, 107], [114, 101, 102, 105, 108, 108], [112, 117, 108, 108], [110, 105, 99, 101], [109, 97, 115, 107]]
/-- A kind's fields. -/
def form (k : Int) : List UInt8 :=
  if k = 1 ∨ k = 4 ∨ k = 11 ∨ k = 14 then [97, 110]
  else if k = 3 then [97, 98]
  else if k = 5 then [97, 110, 109]
  else if k = 6 then [97, 110, 115]
  else if k = 15 then [97, 115]
  else [97]
def may (e : Ev) : Bool :=
  !(decide (e.k < 1) || decide (15 < e.k) || decide (e.a < 0) || decide (e.b < 0)) &&
  (decide (98 ∈ form e.k) || decide (e.b = 0)) && (decide (110 ∈ form e.k) || decide (e.n = 0)) && (decide (109 ∈ form e.k) || decide (e.m = 0)) && (decide (115 ∈ form e.k) || decide (e.s = 0))

/-! ### figures -/
abbrev figs (n : Int) : List UInt8 := Lib.itoa n
def dval (l : List UInt8) : Nat := l.foldl (fun n c => 10 * n + (c.toNat - 48)) 0
theorem dval_snoc (l : List UInt8) (c : UInt8) : dval (l ++ [c]) = 10 * dval l + (c.toNat - 48) := by simp [dval, List.foldl_append]
theorem byte_nat (k : Nat) (h : k < 256) : (UInt8.ofNat k).toNat = k := by rw [UInt8.toNat_ofNat']; omega
theorem dec_last {u : Nat} (h : ¬ u < 10) : Lib.decDigits u = Lib.decDigits (u / 10) ++ [UInt8.ofNat (48 + u % 10)] := by rw [Lib.decDigits, dif_neg h]
theorem dval_dec (u : Nat) : dval (Lib.decDigits u) = u := by
  induction u using Nat.strongRecOn with
  | _ u ih =>
    by_cases h : u < 10
    · rw [Lib.decDigits_one h]
      simp only [dval, List.foldl_cons, List.foldl_nil]
      rw [byte_nat _ (by omega)]
      omega
    · rw [dec_last h, dval_snoc, ih (u / 10) (by omega), byte_nat _ (by omega)]
      omega
def isDig (c : UInt8) : Bool := decide (48 ≤ c.toNat ∧ c.toNat ≤ 57)
theorem dec_dig (u : Nat) : ∀ c ∈ Lib.decDigits u, isDig c = true := by
  induction u using Nat.strongRecOn with
  | _ u ih =>
    by_cases h : u < 10
    · rw [Lib.decDigits_one h]
      intro c hc
      rw [List.mem_singleton] at hc
      subst hc
      unfold isDig
      rw [byte_nat _ (by omega)]
      simp; omega
    · rw [dec_last h]
      intro c hc
      rcases List.mem_append.1 hc with hc | hc
      · exact ih (u / 10) (by omega) c hc
      · rw [List.mem_singleton] at hc
        subst hc
        unfold isDig
        rw [byte_nat _ (by omega)]
        simp; omega
theorem dec_ne (u : Nat) : Lib.decDigits u ≠ [] := by
  have := Lib.decDigits_length u
  have h2 := Lib.nDigits_pos u
  intro e
  rw [e] at this
  simp at this
  omega
theorem dec_head (u : Nat) : (Lib.decDigits u).head? ≠ some 45 := by
  intro h
  have := dec_dig u 45 (List.mem_of_mem_head? (by simp [h]))
  simp [isDig] at this
def numVal (l : List UInt8) : Int := if l.head? = some 45 then -(dval l.tail : Int) else dval l
/-- The number whose figures a text is. -/
def numOf (l : List UInt8) : Option Int := if I64 (numVal l) ∧ figs (numVal l) = l then some (numVal l) else none
theorem numVal_figs (n : Int) : numVal (figs n) = n := by
  unfold numVal figs Lib.itoa
  by_cases h0 : n < 0
  · simp only [if_pos h0, List.head?_cons, List.tail_cons, dval_dec]
    simp
    omega
  · simp only [if_neg h0]
    rw [if_neg (dec_head _), dval_dec]
    omega
theorem numOf_figs {n : Int} (h : I64 n) : numOf (figs n) = some n := by
  unfold numOf
  rw [numVal_figs, if_pos ⟨h, rfl⟩]
theorem numOf_some {l : List UInt8} {n : Int} (h : numOf l = some n) : I64 n ∧ figs n = l := by
  unfold numOf at h
  split at h
  · rename_i hc
    cases h
    exact hc
  · cases h
theorem numOf_none {l : List UInt8} (h : numOf l = none) {n : Int} (hn : I64 n) : figs n ≠ l := by
  intro e
  rw [← e, numOf_figs hn] at h
  cases h

/-! ### a text in parts -/
def spl (c : UInt8) : List UInt8 → List (List UInt8)
  | [] => [[]]
  | x :: l => if x = c then [] :: spl c l else match spl c l with
    | [] => [[x]]
    | p :: ps => (x :: p) :: ps
theorem spl_ne (c : UInt8) (l : List UInt8) : spl c l ≠ [] := by
  cases l with
  | nil => simp [spl]
  | cons x l =>
    unfold spl
    split
    · simp
    · split <;> simp
theorem spl_none {c : UInt8} {l : List UInt8} (h : ∀ x ∈ l, x ≠ c) : spl c l = [l] := by
  induction l with
  | nil => rfl
  | cons x l ih =>
    unfold spl
    rw [if_neg (h x (by simp)), ih (fun y hy => h y (by simp [hy]))]
theorem spl_part {c : UInt8} {l : List UInt8} (h : ∀ x ∈ l, x ≠ c) (m : List UInt8) : spl c (l ++ c :: m) = l :: spl c m := by
  induction l with
  | nil => simp [spl]
  | cons x l ih =>
    rw [List.cons_append, spl, if_neg (h x (by simp)), ih (fun y hy => h y (by simp [hy]))]
/-- As many as there are ends, and one more. -/
theorem spl_len (c : UInt8) (l : List UInt8) : (spl c l).length = l.count c + 1 := by
  induction l with
  | nil => rfl
  | cons x l ih =>
    unfold spl
    by_cases h : x = c
    · subst h; simp [ih]
    · rw [if_neg h, List.count_cons_of_ne (by simpa using h)]
      cases hs : spl c l with
      | nil => exact absurd hs (spl_ne c l)
      | cons p ps => rw [hs] at ih; simpa using ih
end Go.Proofs.YtikdhfedidknpaaDoor.Event
