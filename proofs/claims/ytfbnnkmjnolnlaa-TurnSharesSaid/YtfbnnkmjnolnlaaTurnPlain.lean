/- A clock as plain numbers: what each call makes of it; nothing of a program. Conditions: none. -/
import Derived.Test.YtfbnnkmjnolnlaaFixPlain
import Derived.Test.YtfbnnkmjnolnlaaWidePlain
namespace Go.Proofs.Ytfbnnkmjnolnlaa.Turn
set_option linter.unusedVariables false

/-- A clock: its latency, whom it serves, and its times. -/
structure Ck where
  lat : Int
  task : Int
  ran : Int
  busy : Int
  idle : Int
def top (n : Int) : Int := if 18446744073709551615 < n then 18446744073709551615 else n
def who (t : Int) : Int := if t < 0 then -1 else t
def slice (l x d : Int) : Int := if d ≤ x then l else if Wide.quo l x d < 1 then 1 else Wide.quo l x d
def newC (l : Int) : Ck := ⟨l, -1, 0, 0, 0⟩
def badNew (l : Int) : Bool := decide (l < 1) || decide (1000000000 < l)
def begS (c : Ck) (t : Int) : Ck := if who t = c.task then c else { c with task := who t, ran := 0 }
def tickS (c : Ck) (n : Int) : Ck := if 1000000000 < n then c else if c.task < 0 then { c with idle := top (c.idle + n) } else { c with ran := top (c.ran + n), busy := top (c.busy + n) }
def tickB (c : Ck) (n x d : Int) : Bool := if 1000000000 < n then false else if c.task < 0 then false else decide (slice c.lat x d ≤ top (c.ran + n))
def tickE (n : Int) : Int := if 1000000000 < n then 8 else 0

def U64 (n : Int) : Prop := 0 ≤ n ∧ n ≤ 18446744073709551615
/-- What every clock keeps. -/
structure Good (c : Ck) : Prop where
  lat : U64 c.lat
  task : -1 ≤ c.task ∧ c.task ≤ 9223372036854775807
  ran : U64 c.ran
  busy : U64 c.busy
  idle : U64 c.idle
theorem u64_top {n : Int} (h : 0 ≤ n) : U64 (top n) := by unfold U64 top; split <;> omega
theorem Good.new {l : Int} (h : U64 l) : Good (newC l) := ⟨h, by simp [newC], by simp [newC, U64], by simp [newC, U64], by simp [newC, U64]⟩
theorem Good.beg {c : Ck} (h : Good c) {t : Int} (ht : t ≤ 9223372036854775807) : Good (begS c t) := by
  unfold begS
  split
  · exact h
  · exact ⟨h.lat, by simp only [who]; split <;> omega, by simp [U64], h.busy, h.idle⟩
theorem Good.tick {c : Ck} (h : Good c) {n : Int} (hn : 0 ≤ n) : Good (tickS c n) := by
  have h1 := h.ran.1
  have h2 := h.busy.1
  have h3 := h.idle.1
  unfold tickS
  split
  · exact h
  · split
    · exact ⟨h.lat, h.task, h.ran, h.busy, u64_top (by omega)⟩
    · exact ⟨h.lat, h.task, u64_top (by omega), u64_top (by omega), h.idle⟩
end Go.Proofs.Ytfbnnkmjnolnlaa.Turn
