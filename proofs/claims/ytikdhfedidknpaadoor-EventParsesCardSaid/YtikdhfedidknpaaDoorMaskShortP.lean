/- No text of a set is shorter than the one that is told: of plain data. Conditions: none. -/
import Derived.Test.YtikdhfedidknpaaDoorMaskSplit
namespace Go.Proofs.YtikdhfedidknpaaDoor.Mask
set_option linter.unusedVariables false
set_option linter.unusedSimpArgs false

/-- What a part's own text takes. -/
def cost (p : Nat × Nat) : Nat := (seg p.1 p.2).length + 1
def costs (q : Nat × Nat → Bool) (ps : List (Nat × Nat)) : Nat := (ps.map fun p => if q p then cost p else 0).sum

theorem numb_dig {x : List UInt8} {n : Nat} (h : numb x = some n) : x.length = (dig n).length := by
  match x, h with
  | [a], h =>
    simp only [numb] at h
    split at h
    · rename_i hd
      simp [isDig] at hd
      cases h
      unfold dig
      rw [if_pos (by omega)]
      rfl
    · cases h
  | [a, b], h =>
    simp only [numb] at h
    split at h
    · rename_i hd
      simp [isDig] at hd
      cases h
      unfold dig
      rw [if_neg (by omega)]
      rfl
    · cases h
  | [], h => cases h
  | _ :: _ :: _ :: _, h => simp [numb] at h

theorem part_cost {x : List UInt8} {p : Nat × Nat} (h : part x = some p) : cost p ≤ x.length + 1 := by
  unfold part at h
  cases hn : numb (ahead 45 x) with
  | none => rw [hn] at h; cases h
  | some n =>
    rw [hn] at h
    simp only [Option.bind_some] at h
    have l1 := numb_dig hn
    by_cases hf : found 45 x = true
    · rw [if_pos hf] at h
      cases hk : numb (behind 45 x) with
      | none => rw [hk] at h; cases h
      | some k =>
        rw [hk] at h
        cases h
        have l2 := numb_dig hk
        have l3 := congrArg List.length (split_found hf)
        simp at l3
        unfold cost seg
        split <;> simp <;> omega
    · rw [if_neg hf] at h
      cases h
      rw [(split_none (by simpa using hf)).1] at l1
      unfold cost seg
      simp
      omega

theorem parts_cost : ∀ (k : Nat) (l : List UInt8) (ps : List (Nat × Nat)), partsF k l = some ps → costs (fun _ => true) ps ≤ l.length + 1
  | 0, l, ps, h => by cases h
  | k + 1, l, ps, h => by
    unfold partsF at h
    cases hp : part (ahead 44 l) with
    | none => rw [hp] at h; cases h
    | some p =>
      rw [hp] at h
      simp only [Option.bind_some] at h
      have hc := part_cost hp
      by_cases hf : found 44 l = true
      · rw [if_pos hf] at h
        cases hq : partsF k (behind 44 l) with
        | none => rw [hq] at h; cases h
        | some qs =>
          rw [hq] at h
          cases h
          have := parts_cost k _ _ hq
          have l3 := congrArg List.length (split_found hf)
          simp at l3
          simp [costs] at *
          omega
      · rw [if_neg hf] at h
        cases h
        rw [(split_none (by simpa using hf)).1] at hc
        simpa [costs] using hc

/-- Of parts that are all fine: what they make. -/
theorem join_bits : ∀ (ps : List (Nat × Nat)) (S : Nat) (W : Bool), (joinP (S, W) ps).2 = false → (∀ p ∈ ps, p.1 ≤ p.2 ∧ p.2 < 64) ∧ ∀ i, (joinP (S, W) ps).1.testBit i = true ↔ S.testBit i = true ∨ ∃ p ∈ ps, p.1 ≤ i ∧ i ≤ p.2
  | [], S, W, h => ⟨by simp, fun i => by simp [joinP]⟩
  | p :: ps, S, W, h => by
    have h' : (joinP (join1 (S, W) p) ps).2 = false := h
    by_cases hb : badP p = true
    · rw [show join1 (S, W) p = ((join1 (S, W) p).1, (join1 (S, W) p).2) from rfl, joinP_frame] at h'
      simp [join1, hb] at h'
    · have hb2 : ¬ 64 ≤ p.2 ∧ ¬ p.2 < p.1 := by simp [badP] at hb; omega
      have e : join1 (S, W) p = (S ||| rw' p.1 p.2, W) := by simp [join1, hb]
      rw [e] at h'
      obtain ⟨h1, h2⟩ := join_bits ps _ _ h'
      refine ⟨?_, fun i => ?_⟩
      · intro q hq
        rcases List.mem_cons.1 hq with rfl | hq
        · omega
        · exact h1 q hq
      · show (joinP (join1 (S, W) p) ps).1.testBit i = true ↔ _
        rw [e, h2, Nat.testBit_or, rw_bit _ _ _ (by omega)]
        simp
        constructor
        · rintro ((h3 | h3) | ⟨a, b, h4, h5⟩)
          · exact .inl h3
          · exact .inr (.inl h3)
          · exact .inr (.inr ⟨a, b, h4, h5⟩)
        · rintro (h3 | h3 | ⟨a, b, h4, h5⟩)
          · exact .inl (.inl h3)
          · exact .inl (.inr h3)
          · exact .inr ⟨a, b, h4, h5⟩

theorem costs_one {q : Nat × Nat → Bool} : ∀ {ps : List (Nat × Nat)} {a : Nat × Nat}, a ∈ ps → q a = true → cost a ≤ costs q ps
  | p :: ps, a, h, hq => by
    rcases List.mem_cons.1 h with rfl | h
    · simp [costs, hq]
    · have := costs_one h hq
      simp [costs] at *
      omega
theorem costs_two {q : Nat × Nat → Bool} : ∀ {ps : List (Nat × Nat)} {a b : Nat × Nat}, a ∈ ps → b ∈ ps → a ≠ b → q a = true → q b = true → cost a + cost b ≤ costs q ps
  | p :: ps, a, b, ha, hb, hne, qa, qb => by
    rcases List.mem_cons.1 ha with rfl | ha'
    · rcases List.mem_cons.1 hb with rfl | hb'
      · exact absurd rfl hne
      · have := costs_one hb' qb
        simp [costs, qa] at *
        omega
    · rcases List.mem_cons.1 hb with rfl | hb'
      · have := costs_one ha' qa
        simp [costs, qb] at *
        omega
      · have := costs_two ha' hb' hne qa qb
        simp [costs] at *
        omega
theorem costs_split (q r s : Nat × Nat → Bool) (h : ∀ p, (if q p then cost p else 0) + (if r p then cost p else 0) ≤ (if s p then cost p else 0)) : ∀ ps, costs q ps + costs r ps ≤ costs s ps
  | [] => by simp [costs]
  | p :: ps => by
    have h1 := h p
    have h2 := costs_split q r s h ps
    simp [costs] at *
    omega

def len1 (out : List UInt8) : Nat := if out = [] then 0 else out.length + 1
theorem len1_step (out : List UInt8) (f l : Nat) : len1 (tstep out (f, l)) = len1 out + cost (f, l) := by
  have hne := seg_ne f l
  unfold len1 tstep cost
  by_cases h : out = []
  · simp [h, hne]
  · simp [h]
    omega

theorem short_from (m : Nat) (hm : m < 18446744073709551616) (ps : List (Nat × Nat)) (hp : ∀ p ∈ ps, p.1 ≤ p.2 ∧ p.2 < 64) (hb : ∀ i, m.testBit i = true ↔ ∃ p ∈ ps, p.1 ≤ i ∧ i ≤ p.2) :
    ∀ (k mc c : Nat) (out : List UInt8), 64 - c = k → At m mc c → len1 ((runs m c (64 - c)).foldl tstep out) ≤ len1 out + costs (fun p => decide (c ≤ p.1)) ps := by
  intro k
  induction k using Nat.strongRecOn with
  | ind k ih =>
    intro mc c out hk hat
    by_cases h0 : mc = 0
    · subst h0
      rw [hat.done hm]
      exact Nat.le_add_right _ _
    · obtain ⟨n1, n2, n3, n4, n5, n6, n7, n8⟩ := hat.next hm h0
      generalize lastOf mc (tz mc) = l at *
      generalize tz mc = f at *
      rw [n5]
      have hrec := ih (64 - (l + 1)) (by have := hat.le; omega) _ (l + 1) (tstep out (f, l)) rfl n6
      rw [len1_step] at hrec
      have hlow : 0 < f → m.testBit (f - 1) = false := by
        intro hf
        by_cases hc : c = f
        · rcases hat.new with h4 | h4
          · omega
          · subst hc
            rw [n4 c (Nat.le_refl _) n1] at h4
            cases h4
        · exact n8 (f - 1) (by omega) (by omega)
      have hhigh : m.testBit (l + 1) = false := by
        rcases n6.new with h4 | h4
        · omega
        · exact h4
      have hge : ∀ p ∈ ps, p.1 ≤ l → f ≤ p.2 → f ≤ p.1 ∧ p.2 ≤ l := by
        intro p hpm h1 h2
        refine ⟨?_, ?_⟩
        · apply Nat.le_of_not_lt
          intro h3
          have := (hb (f - 1)).2 ⟨p, hpm, by omega, by omega⟩
          rw [hlow (by omega)] at this
          cases this
        · apply Nat.le_of_not_lt
          intro h3
          have := (hb (l + 1)).2 ⟨p, hpm, by omega, by omega⟩
          rw [hhigh] at this
          cases this
      obtain ⟨pa, ha, ha1, ha2⟩ := (hb f).1 (n4 f (Nat.le_refl _) n1)
      obtain ⟨pb, hpb, hb1, hb2⟩ := (hb l).1 (n4 l n1 (Nat.le_refl _))
      have ga := hge pa ha (by omega) ha2
      have gb := hge pb hpb hb1 (by omega)
      have hsum : cost (f, l) ≤ costs (fun p => decide (c ≤ p.1) && decide (p.1 ≤ l)) ps := by
        have qa : (decide (c ≤ pa.1) && decide (pa.1 ≤ l)) = true := by simp; omega
        have qb : (decide (c ≤ pb.1) && decide (pb.1 ≤ l)) = true := by simp; omega
        by_cases he : pa = pb
        · have e : pa = (f, l) := by
            obtain ⟨x, y⟩ := pa
            subst he
            simp at *
            omega
          rw [← e]
          exact costs_one (q := fun p => decide (c ≤ p.1) && decide (p.1 ≤ l)) ha qa
        · have h2 := costs_two (q := fun p => decide (c ≤ p.1) && decide (p.1 ≤ l)) ha hpb he qa qb
          have e1 : pa.1 = f := by omega
          have e2 : pb.2 = l := by omega
          have c1 : (dig f).length + 1 ≤ cost pa := by
            unfold cost seg
            rw [e1]
            split <;> simp
          have c2 : (dig l).length + 1 ≤ cost pb := by
            unfold cost seg
            rw [e2]
            split
            · simp
              omega
            · have : pb.1 = l := by omega
              rw [this]
              exact Nat.le_refl _
          have c3 : cost (f, l) ≤ (dig f).length + 1 + ((dig l).length + 1) := by
            unfold cost seg
            split <;> simp <;> omega
          omega
      have hspl := costs_split (fun p => decide (c ≤ p.1) && decide (p.1 ≤ l)) (fun p => decide (l + 1 ≤ p.1)) (fun p => decide (c ≤ p.1)) (fun p => by
        by_cases h1 : c ≤ p.1 <;> by_cases h2 : p.1 ≤ l <;> by_cases h3 : l + 1 ≤ p.1 <;> simp [h1, h2, h3] <;> omega) ps
      show len1 ((runs m (l + 1) (64 - (l + 1))).foldl tstep (tstep out (f, l))) ≤ _
      omega

theorem short (s : List UInt8) (hs : s ≠ []) (h : (parse s).2 = 0) : (text (parse s).1).length ≤ s.length := by
  rw [parse_parts s hs] at h ⊢
  unfold told at *
  cases hp : parts s with
  | none => rw [hp] at h; cases h
  | some ps =>
    rw [hp] at h
    simp only at *
    by_cases hw : (joinP (0, false) ps).2 = true
    · rw [if_pos hw] at h; cases h
    · rw [if_neg hw]
      have hw' : (joinP (0, false) ps).2 = false := by simpa using hw
      obtain ⟨h1, h2⟩ := join_bits ps 0 false hw'
      have hc := parts_cost _ _ _ hp
      have hlt : (joinP (0, false) ps).1 < 18446744073709551616 := by
        apply Nat.lt_pow_two_of_testBit _ (n := 64)
        intro i hi
        cases hb : (joinP (0, false) ps).1.testBit i with
        | false => rfl
        | true =>
          obtain ⟨p, hpm, _, h5⟩ := ((h2 i).1 hb).resolve_left (by simp)
          have := (h1 p hpm).2
          omega
      have := short_from _ hlt ps h1 (fun i => by rw [h2]; simp) 64 _ 0 [] rfl (At.start _)
      show (text (joinP (0, false) ps).1).length ≤ _
      unfold text
      have e : costs (fun p => decide (0 ≤ p.1)) ps = costs (fun _ => true) ps := by simp [costs]
      rw [e] at this
      have e2 : len1 ([] : List UInt8) = 0 := rfl
      rw [e2] at this
      have e3 : ∀ l : List UInt8, l.length ≤ len1 l := by intro l; unfold len1; split <;> simp_all
      have e4 : ∀ l : List UInt8, len1 l = 0 ∨ len1 l = l.length + 1 := by intro l; unfold len1; split <;> simp
      have e5 := e3 ((runs (joinP (0, false) ps).1 0 64).foldl tstep [])
      have e6 := e4 ((runs (joinP (0, false) ps).1 0 64).foldl tstep [])
      show ((runs (joinP (0, false) ps).1 0 64).foldl tstep []).length ≤ s.length
      simp only [Nat.sub_zero] at this
      omega
end Go.Proofs.YtikdhfedidknpaaDoor.Mask
