/- A set's text is read as the set: of plain data. Conditions: the set is a word. -/
import Derived.Test.YtikdhfedidknpaaDoorMaskRuns
namespace Go.Proofs.YtikdhfedidknpaaDoor.Mask
set_option linter.unusedVariables false
set_option linter.unusedSimpArgs false

/-- A reader between two parts. -/
def cl (S : Nat) (W : Bool) : R := ⟨S, W, false, 0, 0, 0⟩

theorem take_digit (t : R) (n : Nat) (h : n ≤ 9) : t.take (UInt8.ofNat (48 + n)).toNat = t.figure n := by
  have e : (UInt8.ofNat (48 + n)).toNat = 48 + n := by
    rw [UInt8.toNat_ofNat']
    omega
  rw [e]
  unfold R.take
  rw [if_pos (by omega), show 48 + n - 48 = n by omega]

theorem rd_dig (S : Nat) (W hy : Bool) (fi n : Nat) (h : n < 100) : rd ⟨S, W, hy, fi, 0, 0⟩ (dig n) = some ⟨S, W, hy, fi, n, (dig n).length⟩ := by
  unfold dig
  split
  · simp only [rd]
    rw [take_digit _ _ (by omega)]
    simp [R.figure]
  · rename_i h1
    simp only [rd]
    rw [take_digit _ _ (by omega)]
    have e1 : R.figure ⟨S, W, hy, fi, 0, 0⟩ (n / 10) = some ⟨S, W, hy, fi, n / 10, 1⟩ := by simp [R.figure]
    rw [e1]
    simp only [Option.bind_some]
    rw [take_digit _ _ (by omega)]
    have e2 : R.figure ⟨S, W, hy, fi, n / 10, 1⟩ (n % 10) = some ⟨S, W, hy, fi, n, 2⟩ := by
      have : ¬ n / 10 = 0 := by omega
      unfold R.figure
      rw [if_neg (by simp; omega)]
      simp
      omega
    rw [e2]
    rfl

theorem seg_end (S : Nat) (W : Bool) (f l : Nat) (h : f ≤ l) (hl : l < 64) : (rd (cl S W) (seg f l)).bind R.end = some (cl (S ||| rw' f l) W) := by
  have hd : ∀ n, ¬ (dig n).length = 0 := fun n h => by have := dig_len n; omega
  unfold seg cl
  split
  · rename_i hfl
    rw [rd_append, rd_dig _ _ _ _ _ (by omega)]
    simp only [Option.bind_some, rd]
    have e1 : R.take ⟨S, W, false, 0, f, (dig f).length⟩ (45 : UInt8).toNat = some ⟨S, W, true, f, 0, 0⟩ := by
      have := hd f
      simp [R.take, R.between, this]
    rw [e1]
    simp only [Option.bind_some]
    rw [rd_dig _ _ _ _ _ (by omega)]
    simp only [Option.bind_some]
    have hb : R.bad ⟨S, W, true, f, l, (dig l).length⟩ = false := by simp [R.bad, R.from]; omega
    unfold R.end
    rw [if_neg (hd l), hb]
    simp [R.from]
  · rename_i hfl
    obtain rfl : f = l := by omega
    rw [rd_dig _ _ _ _ _ (by omega)]
    simp only [Option.bind_some]
    have hb : R.bad ⟨S, W, false, 0, f, (dig f).length⟩ = false := by simp [R.bad, R.from]; omega
    unfold R.end
    rw [if_neg (hd f), hb]
    simp [R.from]

/-- A text that was read as S, and ended well. -/
def Reads (out : List UInt8) (S : Nat) : Prop := (out = [] ∧ S = 0) ∨ (out ≠ [] ∧ (rd R.nil out).bind R.end = some (cl S false))

theorem Reads.step {out : List UInt8} {S : Nat} (h : Reads out S) (f l : Nat) (hf : f ≤ l) (hl : l < 64) : Reads (tstep out (f, l)) (S ||| rw' f l) := by
  refine .inr ⟨by unfold tstep; simp [seg_ne], ?_⟩
  rcases h with ⟨rfl, rfl⟩ | ⟨h1, h2⟩
  · exact seg_end 0 false f l hf hl
  · have e : tstep out (f, l) = out ++ 44 :: seg f l := by simp [tstep, h1]
    rw [e, rd_append]
    cases ht : rd R.nil out with
    | none => rw [ht] at h2; cases h2
    | some t =>
      rw [ht] at h2
      simp only [Option.bind_some] at h2
      have e2 : t.take (44 : UInt8).toNat = t.end := by simp [R.take]
      simp only [Option.bind_some, rd]
      rw [e2, h2]
      exact seg_end S false f l hf hl

theorem Reads.parse {out : List UInt8} {S : Nat} (h : Reads out S) : parse out = (S, 0) := by
  rcases h with ⟨rfl, rfl⟩ | ⟨h1, h2⟩
  · rfl
  · unfold Mask.parse shut
    rw [if_neg h1, h2]
    rfl

theorem parse_text_from (m : Nat) (hm : m < 18446744073709551616) : ∀ (k mc c : Nat) (out : List UInt8) (S : Nat), 64 - c = k → At m mc c → Reads out S → (∀ i, S.testBit i = (decide (i < c) && m.testBit i)) →
    Mask.parse ((runs m c (64 - c)).foldl tstep out) = (m, 0) := by
  intro k
  induction k using Nat.strongRecOn with
  | ind k ih =>
    intro mc c out S hk hat hr hS
    by_cases h0 : mc = 0
    · subst h0
      rw [hat.done hm]
      have e : S = m := by
        apply Nat.eq_of_testBit_eq
        intro i
        rw [hS]
        have := hat.bit i
        rw [Nat.zero_testBit] at this
        by_cases hi : i < c
        · simp [hi]
        · have h2 : m.testBit i = false := by simpa [show c ≤ i by omega] using this.symm
          simp [h2]
      subst e
      exact hr.parse
    · obtain ⟨n1, n2, n3, n4, n5, n6, n7, n8⟩ := hat.next hm h0
      generalize lastOf mc (tz mc) = l at *
      generalize tz mc = f at *
      rw [n5]
      refine ih (64 - (l + 1)) (by have := hat.le; omega) _ (l + 1) (tstep out (f, l)) (S ||| rw' f l) rfl n6 (hr.step f l n1 n2) (fun i => ?_)
      rw [Nat.testBit_or, hS, rw_bit f l i n1]
      by_cases h1 : i < c
      · simp [h1, show i < l + 1 by omega, show ¬ f ≤ i by omega]
      · by_cases h2 : i < f
        · simp [h1, n8 i (by omega) h2]
          omega
        · by_cases h3 : i ≤ l
          · simp [n4 i (by omega) h3, show f ≤ i by omega, h3, show i < l + 1 by omega]
          · simp [h1, h3, show ¬ i < l + 1 by omega]

theorem parse_text (m : Nat) (hm : m < 18446744073709551616) : Mask.parse (text m) = (m, 0) :=
  parse_text_from m hm 64 m 0 [] 0 rfl (At.start m) (.inl ⟨rfl, rfl⟩) (fun i => by simp)
end Go.Proofs.YtikdhfedidknpaaDoor.Mask
