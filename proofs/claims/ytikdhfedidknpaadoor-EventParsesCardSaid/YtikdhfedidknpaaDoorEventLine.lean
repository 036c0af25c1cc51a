/- A line's event, and an event's line, numbers alone; what is written is read as it was. Conditions: as each fact states them. -/
import Derived.Test.YtikdhfedidknpaaDoorEventPlain
namespace Go.Proofs.YtikdhfedidknpaaDoor.Event
open Go.RowKit
set_option linter.unusedVariables false
set_option linter.unusedSimpArgs false

/-- What is known of a mask's text: p reads it, t writes it. -/
structure Mk where
  p : List UInt8 → Nat × Int
  t : Nat → List UInt8
abbrev noneT : List UInt8 := [110, 111, 110, 101]
def fieldT (M : Mk) (e : Ev) (f : UInt8) : List UInt8 :=
  if f = 97 then figs e.a else if f = 98 then figs e.b else if f = 110 then figs e.n else if f = 109 then figs e.m else if f = 115 then (if e.s = 0 then noneT else []) ++ M.t e.s else []
def wordOf (k : Int) : List UInt8 := words[(k - 1).toNat]?.getD []
/-- An event's text, without its end. -/
def lineT (M : Mk) (e : Ev) : List UInt8 := (form e.k).foldl (fun out f => out ++ 32 :: fieldT M e f) (wordOf e.k)
def linesT (M : Mk) (l : List Ev) : List UInt8 := l.flatMap fun e => lineT M e ++ [10]
def textP (M : Mk) (l : List Ev) : List UInt8 × Int := if l.all may = true then (if 1000 < l.length then ([], 3) else (linesT M l, 0)) else ([], 1)

/-- What was read so far: an event, and what is wrong. -/
structure Got where
  e : Ev
  bad : Int
deriving DecidableEq
def Ev.zero : Ev := ⟨0, 0, 0, 0, 0, 0⟩
/-- A number's field: wrong, unless it is written as it would be, and not below 0 where it may not be. -/
def numBad (f : UInt8) (s : List UInt8) : Bool := match numOf s with
  | none => true
  | some n => decide (n < 0) && (decide (f = 97) || decide (f = 98))
def putN (e : Ev) (f : UInt8) (n : Int) : Ev := if f = 97 then { e with a := n } else if f = 98 then { e with b := n } else if f = 110 then { e with n := n } else if f = 109 then { e with m := n } else e
def field (M : Mk) (g : Got) (f : UInt8) (s : List UInt8) : Got :=
  if f = 115 then
    if s = noneT then g
    else ⟨{ g.e with s := (M.p s).1 }, if s = [] ∨ (M.p s).2 = 11 then 11 else if (M.p s).2 ≠ 0 ∧ g.bad = 0 then 1 else g.bad⟩
  else ⟨putN g.e f ((numOf s).getD 0), if numBad f s = true then 11 else g.bad⟩
/-- The kind that a word is of; 0: none. -/
def kindOf (w : List UInt8) : Int := if words.idxOf w < 15 then (words.idxOf w : Int) + 1 else 0
def fields (M : Mk) : Got → List UInt8 → List (List UInt8) → Got
  | g, f :: fs, s :: ss => fields M (field M g f s) fs ss
  | g, _, _ => g
def oneQ (M : Mk) (p : List (List UInt8)) (k : Int) : Got := if k = 0 ∨ p.length ≠ (form k).length + 1 then ⟨Ev.zero, 11⟩ else fields M ⟨{ Ev.zero with k := k }, 0⟩ (form k) p.tail
def oneP (M : Mk) (s : List UInt8) : Got := oneQ M (spl 32 s) (kindOf ((spl 32 s).head?.getD []))
def goP (M : Mk) (rest : Bool) : List (List UInt8) → Nat → List Ev → List Ev × Nat × Int
  | [], _, out => (out, 0, 0)
  | s :: ss, i, out =>
    let g := oneP M s
    let b := if rest && ss.isEmpty then 11 else g.bad
    if b ≠ 0 then ([], i, b) else goP M rest ss (i + 1) (out ++ [g.e])
def linesP (l : List UInt8) : List (List UInt8) × Bool :=
  let p := spl 10 l
  if p.getLast? = some [] then (p.dropLast, false) else (p, true)
def parseP (M : Mk) (l : List UInt8) : List Ev × Nat × Int :=
  if l = [] then ([], 0, 0) else if 1000 < (linesP l).1.length then ([], 0, 3) else goP M (linesP l).2 (linesP l).1 0 []

/-! ### no blank and no end stands in what is written of a field -/
abbrev Clean (l : List UInt8) : Prop := ∀ x ∈ l, x ≠ 32 ∧ x ≠ 10
theorem dig_clean {c : UInt8} (h : isDig c = true) : c ≠ 32 ∧ c ≠ 10 := by
  unfold isDig at h
  constructor <;> (intro e; subst e; simp at h)
theorem figs_clean (n : Int) : Clean (figs n) := by
  unfold figs Lib.itoa
  split
  · intro x hx
    rcases List.mem_cons.1 hx with rfl | hx
    · decide
    · exact dig_clean (dec_dig _ x hx)
  · exact fun x hx => dig_clean (dec_dig _ x hx)
theorem words_clean : ∀ w ∈ words, Clean w := by decide
/-- What is asked of a mask's text. -/
structure Mk.Good (M : Mk) : Prop where
  back : ∀ m, m < 18446744073709551616 → m ≠ 0 → M.p (M.t m) = (m, 0)
  some_ : ∀ m, m < 18446744073709551616 → m ≠ 0 → M.t m ≠ []
  none_ : ∀ m, m < 18446744073709551616 → M.t m ≠ noneT
  zero : M.t 0 = []
  clean : ∀ m, m < 18446744073709551616 → Clean (M.t m)
/-- Numbers of their kinds. -/
structure Ev.Ok (e : Ev) : Prop where
  k : I64 e.k
  a : I64 e.a
  b : I64 e.b
  n : I64 e.n
  m : I64 e.m
  s : e.s < 18446744073709551616
theorem field_clean {M : Mk} (hM : M.Good) {e : Ev} (he : e.Ok) (f : UInt8) : Clean (fieldT M e f) := by
  unfold fieldT
  split
  · exact figs_clean _
  split
  · exact figs_clean _
  split
  · exact figs_clean _
  split
  · exact figs_clean _
  split
  · split
    · intro x hx
      rename_i h0
      rw [h0, hM.zero] at hx
      simp at hx
      rcases hx with rfl | rfl | rfl | rfl <;> decide
    · rw [List.nil_append]; exact hM.clean _ he.s
  · intro x hx; cases hx
theorem word_at {k : Int} (h1 : 1 ≤ k) (h2 : k ≤ 15) : wordOf k ∈ words ∧ kindOf (wordOf k) = k := by
  obtain ⟨j, rfl⟩ : ∃ j : Nat, k = j + 1 := ⟨(k - 1).toNat, by omega⟩
  have hj : j < 15 := by omega
  have h : ∀ j : Fin 15, words[j.val]?.getD [] ∈ words ∧ kindOf (words[j.val]?.getD []) = j.val + 1 := by decide
  have := h ⟨j, hj⟩
  unfold wordOf
  rw [show ((j : Int) + 1 - 1).toNat = j by omega]
  exact this
theorem foldl_line (M : Mk) (e : Ev) (fs : List UInt8) (out : List UInt8) : fs.foldl (fun out f => out ++ 32 :: fieldT M e f) out = out ++ (fs.flatMap fun f => 32 :: fieldT M e f) := by
  induction fs generalizing out with
  | nil => simp
  | cons f fs ih => rw [List.foldl_cons, ih]; simp
/-- A line's parts are its word and its fields. -/
theorem line_parts {M : Mk} (hM : M.Good) {e : Ev} (he : e.Ok) (w : List UInt8) (hw : Clean w) (fs : List UInt8) : spl 32 (w ++ (fs.flatMap fun f => 32 :: fieldT M e f)) = w :: fs.map (fieldT M e) := by
  induction fs generalizing w with
  | nil => simp [spl_none (fun x hx => (hw x hx).1)]
  | cons f fs ih =>
    rw [List.flatMap_cons, List.cons_append, spl_part (fun x hx => (hw x hx).1), ih _ (field_clean hM he f)]
    rfl
theorem line_clean {M : Mk} (hM : M.Good) {e : Ev} (he : e.Ok) (h1 : 1 ≤ e.k) (h2 : e.k ≤ 15) : ∀ x ∈ lineT M e, x ≠ 10 := by
  unfold lineT
  rw [foldl_line]
  intro x hx
  rcases List.mem_append.1 hx with hx | hx
  · exact (words_clean _ (word_at h1 h2).1 x hx).2
  · obtain ⟨f, _, hf⟩ := List.mem_flatMap.1 hx
    rcases List.mem_cons.1 hf with rfl | hf
    · decide
    · exact (field_clean hM he f x hf).2
end Go.Proofs.YtikdhfedidknpaaDoor.Event
