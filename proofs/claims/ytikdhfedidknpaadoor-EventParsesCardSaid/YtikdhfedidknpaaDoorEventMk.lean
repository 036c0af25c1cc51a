/- A mask's text, read and written as package mask does: what the lines of a script ask of it. Conditions: none. -/
import Derived.Test.YtikdhfedidknpaaDoorEventAgainQ
import Derived.Test.YtikdhfedidknpaaDoorMaskShortP
namespace Go.Proofs.YtikdhfedidknpaaDoor.Event
open Go.RowKit
set_option linter.unusedVariables false
set_option linter.unusedSimpArgs false

/-- The mask's own text. -/
def MK : Mk := ⟨Mask.parse, Mask.text⟩
def okc (c : UInt8) : Bool := decide (48 ≤ c.toNat ∧ c.toNat ≤ 57) || decide (c = 44) || decide (c = 45)
theorem dig_okc (n : Nat) (h : n < 100) : ∀ c ∈ Mask.dig n, okc c = true := by
  have key : ∀ k : Fin 100, ∀ c ∈ Mask.dig k.val, okc c = true := by decide +kernel
  exact key ⟨n, h⟩
theorem seg_okc (f l : Nat) (hf : f < 100) (hl : l < 100) : ∀ c ∈ Mask.seg f l, okc c = true := by
  unfold Mask.seg
  intro c hc
  split at hc
  · rcases List.mem_append.1 hc with h | h
    · exact dig_okc f hf c h
    · rcases List.mem_cons.1 h with rfl | h
      · decide
      · exact dig_okc l hl c h
  · exact dig_okc f hf c hc
theorem bit_hi (m : Nat) (hm : m < 18446744073709551616) (i : Nat) (h : 64 ≤ i) : m.testBit i = false :=
  Nat.testBit_lt_two_pow (Nat.lt_of_lt_of_le (show m < 2 ^ 64 from hm) (Nat.pow_le_pow_right (by decide) h))
theorem up_lt' (m : Nat) (hm : m < 18446744073709551616) : ∀ (k p : Nat), p < 64 → Mask.up m p k < 64
  | 0, p, h => h
  | k + 1, p, h => by
    unfold Mask.up
    split
    · rename_i hb
      have : p + 1 < 64 := by
        apply Nat.lt_of_not_le
        intro h1
        rw [bit_hi m hm _ h1] at hb
        cases hb
      exact up_lt' m hm k (p + 1) this
    · exact h
theorem runs_le (m : Nat) (hm : m < 18446744073709551616) : ∀ (k p : Nat), p + k ≤ 64 → ∀ x ∈ Mask.runs m p k, x.1 < 100 ∧ x.2 < 100
  | 0, p, _, x, h => by simp [Mask.runs] at h
  | k + 1, p, hp, x, h => by
    unfold Mask.runs at h
    split at h
    · rcases List.mem_cons.1 h with rfl | h
      · have := up_lt' m hm 64 p (by omega)
        simp only
        omega
      · exact runs_le m hm k (p + 1) (by omega) x h
    · exact runs_le m hm k (p + 1) (by omega) x h
theorem fold_okc : ∀ (L : List (Nat × Nat)) (out : List UInt8), (∀ c ∈ out, okc c = true) → (∀ x ∈ L, x.1 < 100 ∧ x.2 < 100) → ∀ c ∈ L.foldl Mask.tstep out, okc c = true
  | [], out, ho, _, c, hc => ho c hc
  | x :: L, out, ho, hL, c, hc => by
    rw [List.foldl_cons] at hc
    refine fold_okc L _ (fun c hc => ?_) (fun y hy => hL y (by simp [hy])) c hc
    obtain ⟨h1, h2⟩ := hL x (by simp)
    unfold Mask.tstep at hc
    rcases List.mem_append.1 hc with h | h
    · split at h
      · cases h
      · rcases List.mem_append.1 h with h | h
        · exact ho c h
        · rw [List.mem_singleton] at h; subst h; decide
    · exact seg_okc _ _ h1 h2 c h
theorem text_okc (m : Nat) (hm : m < 18446744073709551616) : ∀ c ∈ Mask.text m, okc c = true :=
  fold_okc _ _ (fun c hc => by cases hc) (runs_le m hm 64 0 (by omega))
theorem fold_len : ∀ (L : List (Nat × Nat)) (out : List UInt8), (L.foldl Mask.tstep out).length ≤ out.length + 6 * L.length
  | [], out => by simp
  | x :: L, out => by
    rw [List.foldl_cons]
    refine Nat.le_trans (fold_len L _) ?_
    have := Mask.seg_len x.1 x.2
    have h2 : (Mask.tstep out x).length ≤ out.length + 6 := by
      unfold Mask.tstep
      split <;> simp <;> omega
    simp only [List.length_cons]
    omega
theorem runs_len (m : Nat) : ∀ (k p : Nat), (Mask.runs m p k).length ≤ k
  | 0, p => by simp [Mask.runs]
  | k + 1, p => by
    have := runs_len m k (p + 1)
    unfold Mask.runs
    split
    · simp only [List.length_cons]; omega
    · omega
theorem text_len (m : Nat) : (Mask.text m).length ≤ 384 := by
  have h1 := fold_len (Mask.runs m 0 64) []
  have h2 := runs_len m 64 0
  unfold Mask.text
  simp only [List.length_nil] at h1
  omega
theorem rd_ok {t t' : Mask.R} {l : List UInt8} (h : t.Ok) (e : Mask.rd t l = some t') : t'.Ok := by
  induction l generalizing t with
  | nil => simp only [Mask.rd] at e; cases e; exact h
  | cons c l ih =>
    simp only [Mask.rd] at e
    cases hc : t.take c.toNat with
    | none => rw [hc] at e; cases e
    | some u => rw [hc] at e; exact ih (Mask.R.take_ok h hc) e
theorem parse_lt (s : List UInt8) (h : (Mask.parse s).2 = 0) : (Mask.parse s).1 < 18446744073709551616 := by
  unfold Mask.parse at h ⊢
  split
  · decide
  · rename_i h0
    rw [if_neg h0] at h
    cases hr : Mask.rd Mask.R.nil s with
    | none => rw [hr] at h; simp [Mask.shut] at h
    | some t =>
      have hok : t.Ok := rd_ok Mask.R.nil_ok hr
      rw [hr] at h
      unfold Mask.shut at h ⊢
      cases he : t.end with
      | none => simp [he] at h
      | some t' =>
        have := Mask.R.end_ok hok he
        simp only [Option.bind_some, he] at h ⊢
        split
        · decide
        · exact this.set
theorem good : MK.Good where
  back := fun m hm _ => Mask.parse_text m hm
  some_ := fun m hm h0 e => by
    have h1 := Mask.parse_text m hm
    have e' : Mask.text m = [] := e
    rw [e'] at h1
    have h2 : Mask.parse [] = (0, 0) := rfl
    rw [h2] at h1
    exact h0 (Prod.mk.inj h1).1.symm
  none_ := fun m hm e => by
    have h1 := text_okc m hm 110 (by have e' : Mask.text m = noneT := e; rw [e']; simp)
    exact absurd h1 (by decide)
  zero := by show Mask.text 0 = []; decide +kernel
  clean := fun m hm x hx => by
    have h1 := text_okc m hm x hx
    constructor <;> (intro e; subst e; exact absurd h1 (by decide))
theorem short' : MK.Short where
  lt := parse_lt
  len := fun s h => by
    by_cases h0 : s = []
    · subst h0
      show (Mask.text (Mask.parse []).1).length ≤ 0
      have : Mask.parse [] = (0, 0) := rfl
      rw [this]
      have : Mask.text 0 = [] := by decide +kernel
      rw [this]
      exact Nat.le_refl _
    · exact Mask.short s h0 h
end Go.Proofs.YtikdhfedidknpaaDoor.Event
