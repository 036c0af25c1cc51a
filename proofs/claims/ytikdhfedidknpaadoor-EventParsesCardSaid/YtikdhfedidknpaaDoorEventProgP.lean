/- What the program reads of a script, line by line and field by field, is what the document's answer is, numbers alone. Conditions: as each fact states them. -/
import Derived.Test.YtikdhfedidknpaaDoorEventMk
import Derived.Lib.AtoiAllCases
import Derived.Lib.Strings
namespace Go.Proofs.YtikdhfedidknpaaDoor.Event
open Go.RowKit
set_option linter.unusedVariables false
set_option linter.unusedSimpArgs false

/-! ### a number's text -/
theorem parseUint_dec (u : Nat) (hu : u < 18446744073709551616) : Lib.parseUint10 0 (Lib.decDigits u) = .ok u := by
  have step : ∀ (l : List UInt8) (c : UInt8) (a n : Nat), Lib.parseUint10 a l = .ok n → isDig c = true → 10 * n + (c.toNat - 48) < 18446744073709551616 → Lib.parseUint10 a (l ++ [c]) = .ok (10 * n + (c.toNat - 48)) := by
    intro l
    induction l with
    | nil =>
      intro c a n h hc hb
      simp only [Lib.parseUint10] at h
      injection h with h
      subst h
      unfold isDig at hc
      have hd := of_decide_eq_true hc
      rw [List.nil_append, Lib.parseUint10, if_pos hd, if_neg (by omega), if_neg (by omega), Lib.parseUint10]
      congr 1
      omega
    | cons x l ih =>
      intro c a n h hc hb
      rw [List.cons_append, Lib.parseUint10]
      rw [Lib.parseUint10] at h
      split at h
      · rename_i hx
        rw [if_pos hx]
        split at h
        · cases h
        · rename_i h1
          rw [if_neg h1]
          split at h
          · cases h
          · rename_i h2
            rw [if_neg h2]
            exact ih c _ n h hc hb
      · cases h
  induction u using Nat.strongRecOn with
  | _ u ih =>
    by_cases h : u < 10
    · rw [Lib.decDigits_one h, Lib.parseUint10]
      have hb := byte_nat (48 + u) (by omega)
      rw [hb, if_pos (by omega), if_neg (by omega), if_neg (by omega), Lib.parseUint10]
      congr 1
      omega
    · rw [dec_last h]
      have h1 := ih (u / 10) (by omega) (by omega)
      have hb := byte_nat (48 + u % 10) (by omega)
      have hd : isDig (UInt8.ofNat (48 + u % 10)) = true := by unfold isDig; rw [hb]; simp; omega
      have := step _ (UInt8.ofNat (48 + u % 10)) 0 (u / 10) h1 hd (by rw [hb]; omega)
      rw [this, hb]
      congr 1
      omega
theorem parseMag_dec (u : Nat) (hu : u < 18446744073709551616) : Lib.parseMag (Lib.decDigits u) = .ok u := by
  unfold Lib.parseMag
  rw [if_neg (dec_ne u), parseUint_dec u hu]
theorem atoi_figs {n : Int} (h : I64 n) : Lib.atoiAll (figs n) = .ok n := by
  obtain ⟨h0, h1⟩ := h
  unfold figs Lib.itoa
  by_cases hn : n < 0
  · rw [if_pos hn, Lib.atoiAll_minus, parseMag_dec _ (by omega)]
    simp only [Lib.signed]
    rw [if_neg (by omega)]
    congr 1
    omega
  · rw [if_neg hn]
    cases hd : Lib.decDigits n.toNat with
    | nil => exact absurd hd (dec_ne _)
    | cons c r =>
      have hc := dec_dig n.toNat c (by rw [hd]; simp)
      unfold isDig at hc
      have hc' := of_decide_eq_true hc
      rw [Lib.atoiAll_plain c r (by omega) (by omega), ← hd, parseMag_dec _ (by omega)]
      simp only [Lib.signless]
      rw [if_neg (by omega)]
      congr 1
      omega
/-- What the program makes of a number's text. -/
def numA (l : List UInt8) : Option Int := match Lib.atoiAll l with
  | .ok v => if figs v = l then some v else none
  | _ => none
theorem numA_eq (l : List UInt8) : numA l = numOf l := by
  cases h : numOf l with
  | some v =>
    obtain ⟨h1, h2⟩ := numOf_some h
    unfold numA
    rw [← h2, atoi_figs h1]
    simp
  | none =>
    unfold numA
    cases ha : Lib.atoiAll l with
    | ok v =>
      have hb := Lib.atoiAll_bounds ha
      simp only
      rw [if_neg (numOf_none h hb)]
    | _ => rfl

/-! ### fields -/
def up (f : UInt8) : UInt8 := if f = 97 then 65 else if f = 98 then 66 else if f = 110 then 78 else if f = 109 then 77 else 83
def formU (k : Int) : List UInt8 := (form k).map up
/-- What a field's text is: its value, and what is wrong. -/
def valF (M : Mk) (f : UInt8) (s : List UInt8) : Int × Int :=
  if f = 65 ∨ f = 66 then match numOf s with
    | some n => if n < 0 then (0, 11) else (n, 0)
    | none => (0, 11)
  else if f = 78 ∨ f = 77 then match numOf s with
    | some n => (n, 0)
    | none => (0, 11)
  else if s = noneT then (0, 0) else if s = [] then (0, 11) else if (M.p s).2 = 0 then ((M.p s).1, 0) else (0, (M.p s).2)
def getF (e : Ev) (f : UInt8) : Int := if f = 65 then e.a else if f = 66 then e.b else if f = 78 then e.n else if f = 77 then e.m else e.s
def putF (e : Ev) (f : UInt8) (z : Int) : Ev := if f = 65 then { e with a := z } else if f = 66 then { e with b := z } else if f = 78 then { e with n := z } else if f = 77 then { e with m := z } else { e with s := z.toNat }
def readF (M : Mk) : Ev → List UInt8 → List UInt8 → Got
  | e, [], _ => ⟨e, 0⟩
  | e, f :: fs, s => if (valF M f (Mask.ahead 32 s)).2 ≠ 0 then ⟨Ev.zero, (valF M f (Mask.ahead 32 s)).2⟩ else readF M (putF e f (valF M f (Mask.ahead 32 s)).1) fs (Mask.behind 32 s)
def readP (M : Mk) (l : List UInt8) : Got :=
  if kindOf (Mask.ahead 32 l) = 0 ∨ l.count 32 ≠ (formU (kindOf (Mask.ahead 32 l))).length then ⟨Ev.zero, 11⟩ else readF M { Ev.zero with k := kindOf (Mask.ahead 32 l) } (formU (kindOf (Mask.ahead 32 l))) (Mask.behind 32 l)
/-- Where anything is wrong, nothing else is told. -/
def norm (g : Got) : Got := if g.bad = 0 then g else ⟨Ev.zero, g.bad⟩
structure Mk.Errs (M : Mk) : Prop where
  e : ∀ s, (M.p s).2 = 0 ∨ (M.p s).2 = 1 ∨ (M.p s).2 = 11

theorem spl_ahead (c : UInt8) (l : List UInt8) : spl c l = if Mask.found c l = true then Mask.ahead c l :: spl c (Mask.behind c l) else [l] := by
  by_cases h : Mask.found c l = true
  · rw [if_pos h]
    conv => lhs; rw [Mask.split_found h]
    exact spl_part Mask.ahead_ne _
  · rw [if_neg h]
    exact spl_none (Mask.split_none (by simpa using h)).2
theorem head_spl (c : UInt8) (l : List UInt8) : (spl c l).head?.getD [] = Mask.ahead c l := by
  rw [spl_ahead]
  by_cases h : Mask.found c l = true
  · rw [if_pos h]; rfl
  · rw [if_neg h, (Mask.split_none (by simpa using h)).1]; rfl
abbrev Fl (f : UInt8) : Prop := f = 97 ∨ f = 98 ∨ f = 110 ∨ f = 109 ∨ f = 115
theorem fields_bad (M : Mk) : ∀ (fs : List UInt8) (ss : List (List UInt8)) (g : Got), g.bad = 11 → (fields M g fs ss).bad = 11
  | [], ss, g, h => by unfold fields; exact h
  | f :: fs, [], g, h => by unfold fields; exact h
  | f :: fs, s :: ss, g, h => by
    unfold fields
    refine fields_bad M fs ss _ ?_
    unfold field
    split
    · split
      · exact h
      · simp only
        split
        · rfl
        · rw [if_neg (by rw [h]; omega)]; exact h
    · simp only
      split
      · rfl
      · exact h
/-- One field, beside what the program makes of it. -/
theorem field_val (M : Mk) (hE : M.Errs) (e : Ev) (f : UInt8) (hf : Fl f) (hs : f = 115 → e.s = 0) (s : List UInt8) :
    ((valF M (up f) s).2 = 0 ∧ field M ⟨e, 0⟩ f s = ⟨putF e (up f) (valF M (up f) s).1, 0⟩) ∨
    ((valF M (up f) s).2 ≠ 0 ∧ (field M ⟨e, 0⟩ f s).bad = (valF M (up f) s).2 ∧ (f ≠ 115 → (field M ⟨e, 0⟩ f s).bad = 11)) := by
  rcases hf with rfl | rfl | rfl | rfl | rfl
  · have hu : up 97 = 65 := by decide
    rw [hu]
    unfold field
    rw [if_neg (by decide)]
    unfold numBad valF
    cases h : numOf s with
    | none => exact .inr ⟨by simp, by simp, by simp⟩
    | some n =>
      by_cases hn : n < 0
      · exact .inr ⟨by simp [hn], by simp [hn], by simp [hn]⟩
      · exact .inl ⟨by simp [hn], by simp [hn, putN, putF]⟩
  · have hu : up 98 = 66 := by decide
    rw [hu]
    unfold field
    rw [if_neg (by decide)]
    unfold numBad valF
    cases h : numOf s with
    | none => exact .inr ⟨by simp, by simp, by simp⟩
    | some n =>
      by_cases hn : n < 0
      · exact .inr ⟨by simp [hn], by simp [hn], by simp [hn]⟩
      · exact .inl ⟨by simp [hn], by simp [hn, putN, putF]⟩
  · have hu : up 110 = 78 := by decide
    rw [hu]
    unfold field
    rw [if_neg (by decide)]
    unfold numBad valF
    cases h : numOf s with
    | none => exact .inr ⟨by simp, by simp, by simp⟩
    | some n => exact .inl ⟨by simp, by simp [putN, putF]⟩
  · have hu : up 109 = 77 := by decide
    rw [hu]
    unfold field
    rw [if_neg (by decide)]
    unfold numBad valF
    cases h : numOf s with
    | none => exact .inr ⟨by simp, by simp, by simp⟩
    | some n => exact .inl ⟨by simp, by simp [putN, putF]⟩
  · have hu : up 115 = 83 := by decide
    have hs' := hs rfl
    rw [hu]
    unfold field
    rw [if_pos rfl]
    unfold valF
    rw [if_neg (by decide), if_neg (by decide)]
    by_cases hn : s = noneT
    · refine .inl ⟨by rw [if_pos hn], ?_⟩
      rw [if_pos hn, if_pos hn]
      simp only [putF]
      congr 1
      cases e
      simp at hs'
      subst hs'
      rfl
    · rw [if_neg hn, if_neg hn]
      by_cases h0 : s = []
      · exact .inr ⟨by rw [if_pos h0]; simp, by rw [if_pos h0]; simp [h0], fun h => absurd rfl h⟩
      · rw [if_neg h0]
        rcases hE.e s with he | he | he
        · refine .inl ⟨by rw [if_pos he], ?_⟩
          rw [if_pos he]
          simp [he, h0, putF]
        · exact .inr ⟨by simp [he], by simp [he, h0], fun h => absurd rfl h⟩
        · exact .inr ⟨by simp [he], by simp [he, h0], fun h => absurd rfl h⟩
theorem putF_s (e : Ev) (f : UInt8) (hf : Fl f) (h : f ≠ 115) (z : Int) : (putF e (up f) z).s = e.s := by
  rcases hf with rfl | rfl | rfl | rfl | rfl
  · rfl
  · rfl
  · rfl
  · rfl
  · exact absurd rfl h
theorem fields_eq (M : Mk) (hE : M.Errs) : ∀ (fs : List UInt8) (e : Ev) (s : List UInt8), (∀ f ∈ fs, Fl f) → 115 ∉ fs.dropLast → fs ≠ [] → (spl 32 s).length = fs.length → e.s = 0 →
    norm (fields M ⟨e, 0⟩ fs (spl 32 s)) = readF M e (fs.map up) s
  | [], _, _, _, _, h, _, _ => absurd rfl h
  | [f], e, s, hf, _, _, hl, hs => by
    have hsp := spl_ahead 32 s
    by_cases hfo : Mask.found 32 s = true
    · rw [if_pos hfo] at hsp
      rw [hsp] at hl
      have := List.length_pos_iff.2 (spl_ne 32 (Mask.behind 32 s))
      simp at hl
      exact absurd hl (spl_ne 32 _)
    · rw [if_neg hfo] at hsp
      have ha := (Mask.split_none (show Mask.found 32 s = false by simpa using hfo)).1
      rw [hsp]
      simp only [fields, List.map_cons, List.map_nil, readF, ha]
      rcases field_val M hE e f (hf f (by simp)) (fun _ => hs) s with ⟨h1, h2⟩ | ⟨h1, h2, h3⟩
      · rw [h2, if_neg (by simpa using h1)]
        simp [norm]
      · rw [if_pos h1]
        unfold norm
        rw [h2, if_neg h1]
  | f :: f2 :: fs, e, s, hf, hd, _, hl, hs => by
    have hsp := spl_ahead 32 s
    have hf' := hf f (by simp)
    have hn : f ≠ 115 := by
      intro h
      subst h
      exact hd (by simp)
    by_cases hfo : Mask.found 32 s = true
    · rw [if_pos hfo] at hsp
      rw [hsp] at hl ⊢
      simp only [fields, List.map_cons, readF]
      rcases field_val M hE e f hf' (fun _ => hs) (Mask.ahead 32 s) with ⟨h1, h2⟩ | ⟨h1, h2, h3⟩
      · rw [h2, if_neg (by simpa using h1)]
        refine fields_eq M hE (f2 :: fs) _ _ (fun x hx => hf x (by simp [hx])) (fun h => hd ?_) (by simp) ?_ ?_
        · simp [h]
        · simpa using hl
        · rw [putF_s _ _ hf' hn]; exact hs
      · rw [if_pos h1]
        unfold norm
        rw [fields_bad M _ _ _ (h3 hn), if_neg (by decide)]
        congr 1
        rw [← h2]
        exact (h3 hn).symm
    · rw [if_neg hfo] at hsp
      rw [hsp] at hl
      simp at hl
theorem form_ok (k : Int) : (∀ f ∈ form k, Fl f) ∧ 115 ∉ (form k).dropLast ∧ form k ≠ [] := by
  rcases form_is k with h | h | h | h | h | h <;> (rw [h]; decide)
theorem readP_eq (M : Mk) (hE : M.Errs) (l : List UInt8) : readP M l = norm (oneP M l) := by
  unfold readP oneP oneQ
  rw [head_spl]
  generalize hk : kindOf (Mask.ahead 32 l) = k
  have hlen : (formU k).length = (form k).length := by simp [formU]
  have hsl := spl_len 32 l
  by_cases hc : k = 0 ∨ l.count 32 ≠ (formU k).length
  · rw [if_pos hc, if_pos (by rcases hc with h | h; exact .inl h; exact .inr (by rw [hsl, ← hlen]; omega))]
    rfl
  · rw [if_neg hc, if_neg (by rw [hsl, ← hlen]; intro h; apply hc; rcases h with h | h; exact .inl h; exact .inr (by omega))]
    have hcnt : l.count 32 = (form k).length := by
      rw [hlen] at hc
      by_cases h : l.count 32 = (form k).length
      · exact h
      · exact absurd (.inr h) hc
    obtain ⟨f1, f2, f3⟩ := form_ok k
    have hpos : 0 < (form k).length := List.length_pos_iff.2 f3
    have hfo : Mask.found 32 l = true := by
      by_cases h : Mask.found 32 l = true
      · exact h
      · have := (Mask.split_none (show Mask.found 32 l = false by simpa using h)).2
        have h0 : l.count 32 = 0 := List.count_eq_zero.2 (fun h => this 32 h rfl)
        omega
    have hsp := spl_ahead 32 l
    rw [if_pos hfo] at hsp
    rw [hsp, List.tail_cons]
    refine (fields_eq M hE _ _ _ f1 f2 f3 ?_ rfl).symm
    rw [hsp] at hsl
    simp only [List.length_cons] at hsl
    omega

/-! ### lines -/
def parseG (M : Mk) : Nat → List UInt8 → List Ev → List Ev × Nat × Int
  | 0, _, out => (out, 0, 0)
  | k + 1, s, out =>
    if s = [] then (out, 0, 0)
    else if Mask.found 10 s = false then ([], out.length, 11)
    else if (readP M (Mask.ahead 10 s)).bad ≠ 0 then ([], out.length, (readP M (Mask.ahead 10 s)).bad)
    else parseG M k (Mask.behind 10 s) (out ++ [(readP M (Mask.ahead 10 s)).e])
def aheadOf (s : List UInt8) : Nat := (Lib.trimSuffix s [10]).count 10
def progP (M : Mk) (s : List UInt8) : List Ev × Nat × Int := if 1000 ≤ aheadOf s then ([], 0, 3) else parseG M (s.length + 1) s []
theorem behind_lt {c : UInt8} {l : List UInt8} (h : Mask.found c l = true) : (Mask.behind c l).length < l.length := by
  have := congrArg List.length (Mask.split_found h)
  simp at this
  omega
theorem linesP_cons {s : List UInt8} (h : Mask.found 10 s = true) (hb : Mask.behind 10 s ≠ []) : linesP s = (Mask.ahead 10 s :: (linesP (Mask.behind 10 s)).1, (linesP (Mask.behind 10 s)).2) := by
  have hs := spl_ahead 10 s
  rw [if_pos h] at hs
  unfold linesP
  simp only [hs]
  cases hp : spl 10 (Mask.behind 10 s) with
  | nil => exact absurd hp (spl_ne 10 _)
  | cons p ps =>
    rw [List.getLast?_cons_cons]
    split
    · rw [List.dropLast_cons_of_ne_nil (by simp)]
    · rfl
theorem parseG_eq (M : Mk) (hE : M.Errs) : ∀ (k : Nat) (s : List UInt8) (out : List Ev), s.length < k → parseG M k s out = if s = [] then (out, 0, 0) else goP M (linesP s).2 (linesP s).1 out.length out
  | 0, s, out, h => by omega
  | k + 1, s, out, h => by
    unfold parseG
    by_cases h0 : s = []
    · rw [if_pos h0, if_pos h0]
    · rw [if_neg h0, if_neg h0, readP_eq M hE]
      by_cases hf : Mask.found 10 s = true
      · rw [if_neg (by simp [hf])]
        have hbl := behind_lt hf
        by_cases hb : Mask.behind 10 s = []
        · have hl : linesP s = ([Mask.ahead 10 s], false) := by
            have hs := spl_ahead 10 s
            rw [if_pos hf, hb] at hs
            unfold linesP
            simp only [hs]
            rfl
          rw [hl, goP_cons, badOf_false]
          by_cases hbad : (oneP M (Mask.ahead 10 s)).bad = 0
          · have hn : norm (oneP M (Mask.ahead 10 s)) = oneP M (Mask.ahead 10 s) := by unfold norm; rw [if_pos hbad]
            rw [hn, if_neg (by simpa using hbad), if_neg (by simpa using hbad), parseG_eq M hE k _ _ (by omega), if_pos hb]
            rfl
          · have hn : (norm (oneP M (Mask.ahead 10 s))).bad = (oneP M (Mask.ahead 10 s)).bad := by unfold norm; rw [if_neg hbad]
            rw [hn, if_pos hbad, if_pos hbad]
        · rw [linesP_cons hf hb, goP_cons]
          have hbo : badOf M (linesP (Mask.behind 10 s)).2 (linesP (Mask.behind 10 s)).1 (Mask.ahead 10 s) = (oneP M (Mask.ahead 10 s)).bad := by
            unfold badOf
            have : ((linesP (Mask.behind 10 s)).2 && (linesP (Mask.behind 10 s)).1.isEmpty) = false := by
              unfold linesP
              simp only
              split
              · rfl
              · cases hp : spl 10 (Mask.behind 10 s) with
                | nil => exact absurd hp (spl_ne 10 _)
                | cons p ps => rfl
            rw [this]; rfl
          rw [hbo]
          by_cases hbad : (oneP M (Mask.ahead 10 s)).bad = 0
          · have hn : norm (oneP M (Mask.ahead 10 s)) = oneP M (Mask.ahead 10 s) := by unfold norm; rw [if_pos hbad]
            rw [hn, if_neg (by simpa using hbad), if_neg (by simpa using hbad), parseG_eq M hE k _ _ (by omega), if_neg hb]
            simp
          · have hn : (norm (oneP M (Mask.ahead 10 s))).bad = (oneP M (Mask.ahead 10 s)).bad := by unfold norm; rw [if_neg hbad]
            rw [hn, if_pos hbad, if_pos hbad]
      · have hf' : Mask.found 10 s = false := by simpa using hf
        rw [if_pos hf']
        have hl : linesP s = ([s], true) := by
          have hs := spl_ahead 10 s
          rw [if_neg hf] at hs
          unfold linesP
          simp only [hs]
          rw [if_neg (by simpa using h0)]
        rw [hl, goP_cons]
        have : badOf M true [] s = 11 := rfl
        rw [this, if_pos (by decide)]
theorem trim_snoc (t : List UInt8) : Lib.trimSuffix (t ++ [10]) [10] = t := by
  unfold Lib.trimSuffix Lib.hasSuffix
  rw [if_pos (by simp)]
  simp
theorem trim_not {s : List UInt8} (h : s.getLast? ≠ some 10) : Lib.trimSuffix s [10] = s := by
  unfold Lib.trimSuffix Lib.hasSuffix
  rw [if_neg]
  intro hs
  have := List.isSuffixOf_iff_suffix.1 hs
  obtain ⟨t, rfl⟩ := this
  simp at h
theorem linesP_len {s : List UInt8} (h0 : s ≠ []) : (linesP s).1.length = aheadOf s + 1 := by
  unfold linesP aheadOf
  rcases List.eq_nil_or_concat s with h | ⟨t, b, h⟩
  · exact absurd h h0
  · rw [List.concat_eq_append] at h
    subst h
    by_cases hb : b = 10
    · subst hb
      have h1 : spl 10 (t ++ [10]) = spl 10 t ++ [[]] := spl_join 10 t []
      simp only [h1, trim_snoc]
      simp [spl_len]
    · rw [trim_not (by simpa using hb)]
      have hl : (spl 10 (t ++ [b])).getLast? ≠ some [] := by
        clear h0
        induction t with
        | nil => simp [spl, hb]
        | cons x t ih =>
          rw [List.cons_append, spl]
          split
          · cases hp : spl 10 (t ++ [b]) with
            | nil => exact absurd hp (spl_ne 10 _)
            | cons p ps => rw [List.getLast?_cons_cons, ← hp]; exact ih
          · cases hp : spl 10 (t ++ [b]) with
            | nil => exact absurd hp (spl_ne 10 _)
            | cons p ps =>
              rw [hp] at ih
              cases ps with
              | nil => simp
              | cons q qs => rw [List.getLast?_cons_cons] at ih ⊢; exact ih
      simp only [if_neg hl, spl_len]
theorem progP_eq (M : Mk) (hE : M.Errs) (s : List UInt8) : progP M s = parseP M s := by
  unfold progP
  by_cases h0 : s = []
  · subst h0; rfl
  · rw [parseG_eq M hE _ _ _ (by omega), if_neg h0]
    unfold parseP
    rw [if_neg h0, linesP_len h0]
    by_cases h : 1000 ≤ aheadOf s
    · rw [if_pos h, if_pos (by omega)]
    · rw [if_neg h, if_neg (by omega)]
      rfl
theorem errs : MK.Errs where
  e := fun s => by
    show (Mask.parse s).2 = 0 ∨ (Mask.parse s).2 = 1 ∨ (Mask.parse s).2 = 11
    unfold Mask.parse Mask.shut
    split
    · exact .inl rfl
    · split
      · exact .inr (.inr rfl)
      · split
        · exact .inr (.inl rfl)
        · exact .inl rfl
end Go.Proofs.YtikdhfedidknpaaDoor.Event
