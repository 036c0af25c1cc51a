/- A text taken apart at its commas and hyphens, and that the reader tells the same of it: of plain data. Conditions: none. -/
import Derived.Test.YtikdhfedidknpaaDoorMaskBackP
namespace Go.Proofs.YtikdhfedidknpaaDoor.Mask
set_option linter.unusedVariables false
set_option linter.unusedSimpArgs false

def isDig (c : UInt8) : Bool := decide (48 ≤ c.toNat) && decide (c.toNat ≤ 57)
/-- A number's text. -/
def numb : List UInt8 → Option Nat
  | [a] => if isDig a then some (a.toNat - 48) else none
  | [a, b] => if isDig a && isDig b && decide (a.toNat ≠ 48) then some (10 * (a.toNat - 48) + (b.toNat - 48)) else none
  | _ => none

def ahead (c : UInt8) (l : List UInt8) : List UInt8 := l.takeWhile (· != c)
def behind (c : UInt8) (l : List UInt8) : List UInt8 := (l.dropWhile (· != c)).tail
def found (c : UInt8) (l : List UInt8) : Bool := !(l.dropWhile (· != c)).isEmpty

theorem tw_all (p : UInt8 → Bool) : ∀ (l : List UInt8) (x : UInt8), x ∈ l.takeWhile p → p x = true
  | [], x, h => by cases h
  | a :: l, x, h => by
    rw [List.takeWhile_cons] at h
    split at h
    · rcases List.mem_cons.1 h with rfl | h
      · assumption
      · exact tw_all p l x h
    · cases h

theorem split_found {c : UInt8} {l : List UInt8} (h : found c l = true) : l = ahead c l ++ c :: behind c l := by
  unfold found at h
  unfold ahead behind
  cases hd : l.dropWhile (· != c) with
  | nil => rw [hd] at h; cases h
  | cons a r =>
    have ha : a = c := by
      have := List.head?_dropWhile_not (p := (· != c)) (l := l)
      rw [hd] at this
      simpa using this
    subst ha
    conv => lhs; rw [← List.takeWhile_append_dropWhile (p := (· != a)) (l := l), hd]
    rfl
theorem split_none {c : UInt8} {l : List UInt8} (h : found c l = false) : ahead c l = l ∧ ∀ x ∈ l, x ≠ c := by
  unfold found at h
  have hd : l.dropWhile (· != c) = [] := by simpa using h
  have e : ahead c l = l := by
    unfold ahead
    have := List.takeWhile_append_dropWhile (p := (· != c)) (l := l)
    rw [hd, List.append_nil] at this
    exact this
  refine ⟨e, fun x hx => ?_⟩
  rw [← e] at hx
  have := tw_all _ _ _ hx
  simpa using this
theorem ahead_ne {c : UInt8} {l : List UInt8} : ∀ x ∈ ahead c l, x ≠ c := by
  intro x hx
  have := tw_all _ _ _ hx
  simpa using this

/-- A part. -/
def part (l : List UInt8) : Option (Nat × Nat) := (numb (ahead 45 l)).bind fun n => if found 45 l then (numb (behind 45 l)).map fun k => (n, k) else some (n, n)
def partsF : Nat → List UInt8 → Option (List (Nat × Nat))
  | 0, _ => none
  | k + 1, l => (part (ahead 44 l)).bind fun p => if found 44 l then (partsF k (behind 44 l)).map (p :: ·) else some [p]
/-- All parts. -/
def parts (l : List UInt8) : Option (List (Nat × Nat)) := partsF (l.length + 1) l

def badP (p : Nat × Nat) : Bool := decide (64 ≤ p.2) || decide (p.2 < p.1)
def join1 (s : Nat × Bool) (p : Nat × Nat) : Nat × Bool := (if badP p then s.1 else s.1 ||| rw' p.1 p.2, s.2 || badP p)
def joinP (s : Nat × Bool) (ps : List (Nat × Nat)) : Nat × Bool := ps.foldl join1 s

theorem toNat_ne {a b : UInt8} (h : a ≠ b) : a.toNat ≠ b.toNat := fun e => h (UInt8.toNat_inj.1 e)

theorem take_dig {t : R} {c : UInt8} (h : isDig c = true) : t.take c.toNat = t.figure (c.toNat - 48) := by
  simp [isDig] at h
  unfold R.take
  rw [if_pos h]
theorem take_not {t : R} {c : UInt8} (h : isDig c = false) (h4 : c ≠ 44) (h5 : c ≠ 45 ∨ t.hyphen = true) : t.take c.toNat = none := by
  have h1 : ¬ (48 ≤ c.toNat ∧ c.toNat ≤ 57) := by
    intro ⟨a, b⟩
    simp [isDig, a, b] at h
  have h2 : c.toNat ≠ 44 := toNat_ne (b := 44) h4
  unfold R.take
  rw [if_neg h1]
  by_cases h3 : c.toNat = 45
  · rw [if_pos h3]
    rcases h5 with h5 | h5
    · exact absurd (UInt8.toNat_inj.1 (show c.toNat = (45 : UInt8).toNat from h3)) h5
    · simp [R.between, h5]
  · rw [if_neg h3, if_neg h2]

theorem numb_rd (S : Nat) (W hy : Bool) (fi : Nat) (x : List UInt8) (h4 : ∀ c ∈ x, c ≠ 44) (h5 : (∀ c ∈ x, c ≠ 45) ∨ hy = true) (hx : x ≠ []) :
    rd ⟨S, W, hy, fi, 0, 0⟩ x = (numb x).map fun n => ⟨S, W, hy, fi, n, x.length⟩ := by
  have tn : ∀ (c : UInt8), c ∈ x → isDig c = false → ∀ n g, R.take ⟨S, W, hy, fi, n, g⟩ c.toNat = none := fun c hc hd n g => take_not hd (h4 c hc) (h5.imp (fun h => h c hc) (fun h => h))
  match x, hx, tn with
  | [a], _, tn =>
    simp only [rd, numb]
    by_cases ha : isDig a = true
    · rw [take_dig ha, if_pos ha]
      simp [R.figure]
    · rw [tn a (by simp) (by simpa using ha), if_neg ha]
      rfl
  | [a, b], _, tn =>
    simp only [rd, numb]
    by_cases ha : isDig a = true
    · rw [take_dig ha]
      have e1 : R.figure ⟨S, W, hy, fi, 0, 0⟩ (a.toNat - 48) = some ⟨S, W, hy, fi, a.toNat - 48, 1⟩ := by simp [R.figure]
      rw [e1]
      simp only [Option.bind_some]
      by_cases hb : isDig b = true
      · rw [take_dig hb]
        by_cases h0 : a.toNat = 48
        · simp [h0, R.figure]
        · have h1 : ¬ a.toNat - 48 = 0 := by
            simp [isDig] at ha
            omega
          simp [ha, hb, h0, R.figure, h1]
      · rw [tn b (by simp) (by simpa using hb)]
        simp [hb]
    · rw [tn a (by simp) (by simpa using ha)]
      simp [ha]
  | a :: b :: c :: r, _, tn =>
    simp only [rd, numb]
    by_cases ha : isDig a = true
    · rw [take_dig ha]
      have e1 : R.figure ⟨S, W, hy, fi, 0, 0⟩ (a.toNat - 48) = some ⟨S, W, hy, fi, a.toNat - 48, 1⟩ := by simp [R.figure]
      rw [e1]
      simp only [Option.bind_some]
      by_cases hb : isDig b = true
      · rw [take_dig hb]
        by_cases h0 : a.toNat - 48 = 0
        · simp [R.figure, h0]
        · have e2 : R.figure ⟨S, W, hy, fi, a.toNat - 48, 1⟩ (b.toNat - 48) = some ⟨S, W, hy, fi, 10 * (a.toNat - 48) + (b.toNat - 48), 2⟩ := by simp [R.figure, h0]
          rw [e2]
          simp only [Option.bind_some]
          by_cases hc : isDig c = true
          · rw [take_dig hc]
            simp [R.figure]
          · rw [tn c (by simp) (by simpa using hc)]
            rfl
      · rw [tn b (by simp) (by simpa using hb)]
        rfl
    · rw [tn a (by simp) (by simpa using ha)]
      rfl

theorem numb_ne {x : List UInt8} {n : Nat} (h : numb x = some n) : x ≠ [] := by rintro rfl; cases h

theorem part_rd (S : Nat) (W : Bool) (x : List UInt8) (h4 : ∀ c ∈ x, c ≠ 44) : (rd (cl S W) x).bind R.end = (part x).map fun p => cl (join1 (S, W) p).1 (join1 (S, W) p).2 := by
  unfold part cl
  by_cases hf : found 45 x = true
  · have hx := split_found hf
    have ha := ahead_ne (c := 45) (l := x)
    simp only [hf, ↓reduceIte]
    generalize ahead 45 x = a at *
    generalize behind 45 x = b at *
    subst hx
    have ha4 : ∀ c ∈ a, c ≠ 44 := fun c hc => h4 c (by simp [hc])
    have hb4 : ∀ c ∈ b, c ≠ 44 := fun c hc => h4 c (by simp [hc])
    rw [rd_append]
    by_cases hae : a = []
    · subst hae
      simp [rd, R.take, R.between, numb]
    · rw [numb_rd S W false 0 a ha4 (.inl ha) hae]
      cases hn : numb a with
      | none => rfl
      | some n =>
        have hal : ¬ a.length = 0 := by intro h; exact hae (List.eq_nil_of_length_eq_zero h)
        simp only [Option.map_some, Option.bind_some, rd]
        have e1 : R.take ⟨S, W, false, 0, n, a.length⟩ (45 : UInt8).toNat = some ⟨S, W, true, n, 0, 0⟩ := by simp [R.take, R.between, hal]
        rw [e1]
        simp only [Option.bind_some]
        by_cases hbe : b = []
        · subst hbe
          simp [rd, R.end, numb]
        · rw [numb_rd S W true n b hb4 (.inr rfl) hbe]
          cases hk : numb b with
          | none => rfl
          | some k =>
            have hbl : ¬ b.length = 0 := by intro h; exact hbe (List.eq_nil_of_length_eq_zero h)
            simp only [Option.map_some, Option.bind_some]
            unfold R.end
            rw [if_neg hbl]
            simp [join1, badP, R.bad, R.from]
  · have hf' : found 45 x = false := by simpa using hf
    obtain ⟨e, h5⟩ := split_none hf'
    rw [e]
    simp only [hf', Bool.false_eq_true, ↓reduceIte]
    by_cases hx : x = []
    · subst hx
      simp [rd, R.end, numb]
    · rw [numb_rd S W false 0 x h4 (.inl h5) hx]
      cases hn : numb x with
      | none => rfl
      | some n =>
        have hl : ¬ x.length = 0 := by intro h; exact hx (List.eq_nil_of_length_eq_zero h)
        simp only [Option.map_some, Option.bind_some]
        unfold R.end
        rw [if_neg hl]
        simp [join1, badP, R.bad, R.from]

theorem behind_lt {c : UInt8} {l : List UInt8} (h : found c l = true) : (behind c l).length < l.length := by
  have := congrArg List.length (split_found h)
  simp at this
  omega

theorem parts_rd (S : Nat) (W : Bool) : ∀ (k : Nat) (l : List UInt8), l.length < k → ∀ S W, (rd (cl S W) l).bind R.end = (partsF k l).map fun ps => cl (joinP (S, W) ps).1 (joinP (S, W) ps).2
  | 0, l, h => by omega
  | k + 1, l, h => by
    intro S W
    unfold partsF
    by_cases hf : found 44 l = true
    · have hl := split_found hf
      have hlt := behind_lt hf
      have ha := ahead_ne (c := 44) (l := l)
      simp only [hf, ↓reduceIte]
      generalize ahead 44 l = a at *
      generalize behind 44 l = b at *
      rw [hl, rd_append]
      have hp := part_rd S W a ha
      cases hr : rd (cl S W) a with
      | none =>
        rw [hr] at hp
        cases hq : part a with
        | none => rfl
        | some p => rw [hq] at hp; cases hp
      | some t =>
        rw [hr] at hp
        simp only [Option.bind_some] at hp
        have e2 : t.take (44 : UInt8).toNat = t.end := by simp [R.take]
        simp only [Option.bind_some, rd]
        rw [e2, hp]
        cases hq : part a with
        | none => rfl
        | some p =>
          simp only [Option.map_some, Option.bind_some]
          rw [parts_rd S W k b (by omega) (join1 (S, W) p).1 (join1 (S, W) p).2]
          cases partsF k b with
          | none => rfl
          | some ps => rfl
    · have hf' : found 44 l = false := by simpa using hf
      obtain ⟨e, h4⟩ := split_none hf'
      simp only [hf', Bool.false_eq_true, ↓reduceIte]
      rw [e, part_rd S W l h4]
      cases part l with
      | none => rfl
      | some p => rfl

/-- What a text's parts make. -/
def told (o : Option (List (Nat × Nat))) : Nat × Int :=
  match o with
  | none => (0, 11)
  | some ps => if (joinP (0, false) ps).2 then (0, 1) else ((joinP (0, false) ps).1, 0)

theorem parse_parts (l : List UInt8) (h : l ≠ []) : parse l = told (parts l) := by
  unfold parse shut told parts
  rw [if_neg h]
  have := parts_rd 0 false (l.length + 1) l (by omega) 0 false
  rw [show R.nil = cl 0 false from rfl, this]
  cases partsF (l.length + 1) l with
  | none => rfl
  | some ps => rfl

theorem joinP_frame (ps : List (Nat × Nat)) : ∀ S W, joinP (S, W) ps = (S ||| (joinP (0, false) ps).1, W || (joinP (0, false) ps).2) := by
  induction ps with
  | nil => intro S W; simp [joinP]
  | cons p ps ih =>
    intro S W
    show joinP (join1 (S, W) p) ps = (S ||| (joinP (join1 (0, false) p) ps).1, W || (joinP (join1 (0, false) p) ps).2)
    rw [show join1 (S, W) p = ((join1 (S, W) p).1, (join1 (S, W) p).2) from rfl, ih, show join1 (0, false) p = ((join1 (0, false) p).1, (join1 (0, false) p).2) from rfl, ih (join1 (0, false) p).1]
    simp only [join1]
    by_cases hb : badP p = true
    · simp [hb]
    · simp [hb, Nat.or_assoc]

/-- Two texts, a comma between. -/
theorem parts_comma (a b : List UInt8) : parse (a ++ 44 :: b) = told ((parts a).bind fun ps => (parts b).map fun qs => ps ++ qs) := by
  have e : (rd R.nil (a ++ 44 :: b)).bind R.end = ((parts a).bind fun ps => (parts b).map fun qs => ps ++ qs).map fun ps => cl (joinP (0, false) ps).1 (joinP (0, false) ps).2 := by
    rw [rd_append]
    have ha := parts_rd 0 false (a.length + 1) a (by omega) 0 false
    rw [show R.nil = cl 0 false from rfl]
    unfold parts
    cases hr : rd (cl 0 false) a with
    | none =>
      rw [hr] at ha
      cases hp : partsF (a.length + 1) a with
      | none => rfl
      | some p => rw [hp] at ha; cases ha
    | some t =>
      rw [hr] at ha
      simp only [Option.bind_some] at ha
      have e2 : t.take (44 : UInt8).toNat = t.end := by simp [R.take]
      simp only [Option.bind_some, rd]
      rw [e2, ha]
      cases hp : partsF (a.length + 1) a with
      | none => rfl
      | some ps =>
        simp only [Option.map_some, Option.bind_some]
        rw [parts_rd 0 false (b.length + 1) b (by omega)]
        cases partsF (b.length + 1) b with
        | none => rfl
        | some qs =>
          simp only [Option.map_some]
          congr 1
          simp [joinP, List.foldl_append]
  unfold parse shut
  rw [if_neg (by simp), e]
  unfold told
  cases ((parts a).bind fun ps => (parts b).map fun qs => ps ++ qs) with
  | none => rfl
  | some ps => rfl
end Go.Proofs.YtikdhfedidknpaaDoor.Mask
