/- A clock in memory; its calls. Conditions: as each fact states them. -/
import Derived.Test.YtfbnnkmjnolnlaaTurnGo
import Derived.Test.YtfbnnkmjnolnlaaWideMul
import Derived.OwnWalk
import Derived.WalkMore
namespace Go.Proofs.Ytfbnnkmjnolnlaa.Turn
open Go.ChangeShapes Go.WideShapes Go.ChangeAt Go.RowKit Mem
set_option linter.unusedVariables false
set_option linter.unusedSimpArgs false

/-- A clock's block b, which isn't in O. -/
structure Clock (w : World) (b : Nat) (O : Nat → Prop) (c : Ck) : Prop where
  blk : w.heap[b]? = some (.cells #[.int .u64 c.lat, .int .i64 c.task, .int .u64 c.ran, .int .u64 c.busy, .int .u64 c.idle] 62 (0, 0))
  out : ¬ O b
section
variable {w w' : World} {b : Nat} {O : Nat → Prop} {c : Ck}
theorem Clock.lt (h : Clock w b O c) : b < w.heap.size := lt_of h.blk
theorem Clock.fresh (h : Clock w b O c) (hg : Below w.heap.size w w') : Clock w' b O c := ⟨box_fresh h.blk hg, h.out⟩
theorem Clock.cells (h : Clock w b O c) : w.cell? ⟨b, 0, none⟩ = some (.int .u64 c.lat) ∧ w.cell? ⟨b, 1, none⟩ = some (.int .i64 c.task) ∧ w.cell? ⟨b, 2, none⟩ = some (.int .u64 c.ran) ∧ w.cell? ⟨b, 3, none⟩ = some (.int .u64 c.busy) ∧ w.cell? ⟨b, 4, none⟩ = some (.int .u64 c.idle) ∧ (∀ j, w.frozen? ⟨b, j, none⟩ = false) := five h.blk
theorem Clock.setAt (h : Clock w b O c) {j : Nat} {u : Value} {c' : Ck} (he : #[.int .u64 c.lat, .int .i64 c.task, .int .u64 c.ran, .int .u64 c.busy, .int .u64 c.idle].setIfInBounds j u = #[.int .u64 c'.lat, .int .i64 c'.task, .int .u64 c'.ran, .int .u64 c'.busy, .int .u64 c'.idle]) : Clock (w.setCell ⟨b, j, none⟩ u) b O c' :=
  ⟨by rw [set_block h.blk, he], h.out⟩
theorem Clock.setTask (h : Clock w b O c) (x : Int) : Clock (w.setCell ⟨b, 1, none⟩ (.int .i64 x)) b O { c with task := x } := h.setAt rfl
theorem Clock.setRan (h : Clock w b O c) (x : Int) : Clock (w.setCell ⟨b, 2, none⟩ (.int .u64 x)) b O { c with ran := x } := h.setAt rfl
theorem Clock.setBusy (h : Clock w b O c) (x : Int) : Clock (w.setCell ⟨b, 3, none⟩ (.int .u64 x)) b O { c with busy := x } := h.setAt rfl
theorem Clock.setIdle (h : Clock w b O c) (x : Int) : Clock (w.setCell ⟨b, 4, none⟩ (.int .u64 x)) b O { c with idle := x } := h.setAt rfl
theorem Clock.drew (h : Clock w b O c) : Clock w.drew b O c := ⟨h.blk, h.out⟩
theorem Clock.same (h : Clock w b O c) {a : World} (hs : Same O a w) (j : Nat) (u : Value) : Same O a (w.setCell ⟨b, j, none⟩ u) := hs.setCell h.out u
end

def Fv (b j : Nat) : Value := .func (.func 26) #[.pointer (some ⟨b, j, none⟩)] #[]
set_option maxHeartbeats 1000000 in
theorem pass1 (w : World) (b j g : Nat) (x n : Int) (hx : U64 x) (hn : U64 n) (hc : w.cell? ⟨b, j, none⟩ = some (.int .u64 x)) (hf : w.frozen? ⟨b, j, none⟩ = false) (hg : w.cell? ⟨g, 0, none⟩ = some (Fv b j)) :
    Calls Try.prog 25 #[.int .u64 n, .slice (some ⟨g, 0, none⟩) 1 1] w (Went (w.setCell ⟨b, j, none⟩ (.int .u64 (top (x + n)))) w) := by
  have C := Lib.hid (goOn w b j x n hx hn hc hf)
  unfold Fv at hg
  go_enter Try.func25, Try.ntmps25
  go_wp2
  refine wp_loop_rounds 2 ?_
  rw [rounds_succ]
  go_wp2_with (go_at_call 26; refine C.out.mono ?_; rintro e w1 ⟨rfl, rfl⟩)
  rw [rounds_succ]
  go_wp2
  go_end0; exact ⟨rfl, rfl⟩
set_option maxHeartbeats 1000000 in
theorem pass2 (w : World) (b j k g : Nat) (x y n : Int) (hx : U64 x) (hy : U64 y) (hn : U64 n) (hc : w.cell? ⟨b, j, none⟩ = some (.int .u64 x)) (hf : w.frozen? ⟨b, j, none⟩ = false)
    (hd : (w.setCell ⟨b, j, none⟩ (.int .u64 (top (x + n)))).cell? ⟨b, k, none⟩ = some (.int .u64 y)) (hf2 : (w.setCell ⟨b, j, none⟩ (.int .u64 (top (x + n)))).frozen? ⟨b, k, none⟩ = false)
    (hg : w.cell? ⟨g, 0, none⟩ = some (Fv b j)) (hg2 : (w.setCell ⟨b, j, none⟩ (.int .u64 (top (x + n)))).cell? ⟨g, 1, none⟩ = some (Fv b k)) :
    Calls Try.prog 25 #[.int .u64 n, .slice (some ⟨g, 0, none⟩) 2 2] w (Went ((w.setCell ⟨b, j, none⟩ (.int .u64 (top (x + n)))).setCell ⟨b, k, none⟩ (.int .u64 (top (y + n)))) w) := by
  have C := Lib.hid (goOn w b j x n hx hn hc hf)
  have D := Lib.hid (goOn (w.setCell ⟨b, j, none⟩ (.int .u64 (top (x + n)))) b k y n hy hn hd hf2)
  unfold Fv at hg hg2
  clear hc hf hd hf2
  generalize w.setCell ⟨b, j, none⟩ (.int .u64 (top (x + n))) = w2 at *
  go_enter Try.func25, Try.ntmps25
  go_wp2
  refine wp_loop_rounds 3 ?_
  rw [rounds_succ]
  go_wp2_with (go_at_call 26; refine C.out.mono ?_; rintro e w1 ⟨rfl, rfl⟩)
  rw [rounds_succ]
  go_wp2_with (go_at_call 26; refine D.out.mono ?_; rintro e w1 ⟨rfl, rfl⟩)
  rw [rounds_succ]
  go_wp2
  go_end0; exact ⟨rfl, rfl⟩

/-- An answer, and nothing else; one behind which some blocks are new; one that makes another clock of it. -/
def Still (v : Value) (w : World) (e : Ending) (w' : World) : Prop := e = .returned v ∧ w = w'
def Fresh (v : Value) (w : World) (e : Ending) (w' : World) : Prop := e = .returned v ∧ Below w.heap.size w w'
def Did (v : Value) (c : Ck) (b : Nat) (O : Nat → Prop) (w : World) (e : Ending) (w' : World) : Prop := e = .returned v ∧ Clock w' b O c ∧ Same O w w'

section
variable (w : World) (b : Nat) (O : Nat → Prop) (c : Ck) (h : Clock w b O c)
include h
theorem task : Calls Try.prog 17 #[.pointer (some ⟨b, 0, none⟩)] w (Still (.int .i64 c.task) w) := by
  obtain ⟨c0, c1, c2, c3, c4, fz⟩ := h.cells
  clear h
  go_enter Try.func17, Try.ntmps17
  go_wp2
  go_ret; exact ⟨rfl, rfl⟩
theorem ran : Calls Try.prog 18 #[.pointer (some ⟨b, 0, none⟩)] w (Still (.int .u64 c.ran) w) := by
  obtain ⟨c0, c1, c2, c3, c4, fz⟩ := h.cells
  clear h
  go_enter Try.func18, Try.ntmps18
  go_wp2
  go_ret; exact ⟨rfl, rfl⟩
theorem busy : Calls Try.prog 19 #[.pointer (some ⟨b, 0, none⟩)] w (Still (.int .u64 c.busy) w) := by
  obtain ⟨c0, c1, c2, c3, c4, fz⟩ := h.cells
  clear h
  go_enter Try.func19, Try.ntmps19
  go_wp2
  go_ret; exact ⟨rfl, rfl⟩
theorem idle : Calls Try.prog 20 #[.pointer (some ⟨b, 0, none⟩)] w (Still (.int .u64 c.idle) w) := by
  obtain ⟨c0, c1, c2, c3, c4, fz⟩ := h.cells
  clear h
  go_enter Try.func20, Try.ntmps20
  go_wp2
  go_ret; exact ⟨rfl, rfl⟩

theorem begin' (t : Int) : Calls Try.prog 15 #[.pointer (some ⟨b, 0, none⟩), .int .i64 t] w (Did (.tuple #[]) (begS c t) b O w) := by
  have H := Lib.hid h
  obtain ⟨c0, c1, c2, c3, c4, fz⟩ := h.cells
  clear h
  by_cases h1 : who t = c.task
  · rw [show begS c t = c by unfold begS; rw [if_pos h1]]
    have H1 := Lib.hid h1
    clear h1
    obtain ⟨x, hx⟩ : ∃ x, c.task = x := ⟨_, rfl⟩
    rw [hx] at c1
    have HX := Lib.hid hx
    clear hx
    have hm : max t (-1) = x := by rw [← HX.out, ← H1.out]; unfold who; split <;> omega
    go_enter Try.func15, Try.ntmps15
    go_wp2
    go_end0; exact ⟨rfl, H.out, Same.refl _ _⟩
  · rw [show begS c t = { c with task := who t, ran := 0 } by unfold begS; rw [if_neg h1]]
    obtain ⟨x, hx⟩ : ∃ x, c.task = x := ⟨_, rfl⟩
    obtain ⟨y, hy⟩ : ∃ y, who t = y := ⟨_, rfl⟩
    rw [hx] at c1 h1
    rw [hy] at h1 ⊢
    have hm : max t (-1) = y := by rw [← hy]; unfold who; split <;> omega
    have h2 : (y == x) = false := by simpa using h1
    clear hx hy h1
    go_enter Try.func15, Try.ntmps15
    go_wp2
    go_end0; exact ⟨rfl, (H.out.setTask y).setRan 0, (H.out.setTask y).same (H.out.same (Same.refl _ _) _ _) _ _⟩
end

-- Of one that is nil.
section
variable (w : World)
theorem task_nil : Calls Try.prog 17 #[.pointer none] w (Still (.int .i64 (-1)) w) := by
  go_enter Try.func17, Try.ntmps17
  go_wp2
  go_ret; exact ⟨rfl, rfl⟩
theorem ran_nil : Calls Try.prog 18 #[.pointer none] w (Still (.int .u64 0) w) := by
  go_enter Try.func18, Try.ntmps18
  go_wp2
  go_ret; exact ⟨rfl, rfl⟩
theorem busy_nil : Calls Try.prog 19 #[.pointer none] w (Still (.int .u64 0) w) := by
  go_enter Try.func19, Try.ntmps19
  go_wp2
  go_ret; exact ⟨rfl, rfl⟩
theorem idle_nil : Calls Try.prog 20 #[.pointer none] w (Still (.int .u64 0) w) := by
  go_enter Try.func20, Try.ntmps20
  go_wp2
  go_ret; exact ⟨rfl, rfl⟩
theorem begin_nil (t : Int) : Calls Try.prog 15 #[.pointer none, .int .i64 t] w (Still (.tuple #[]) w) := by
  go_enter Try.func15, Try.ntmps15
  go_wp2
  first | go_end0 | refine bodyPost_ret (v := .tuple #[]) (by simp [results, Try.results15, go_sem]) rfl ?_
  exact ⟨rfl, rfl⟩
theorem tick_nil (n x d : Int) : Calls Try.prog 13 #[.pointer none, .int .u64 n, .int .u64 x, .int .u64 d] w (Still (.tuple #[.bool false, .int .i64 1]) w) := by
  go_enter Try.func13, Try.ntmps13
  go_wp2
  go_ret2; exact ⟨rfl, rfl⟩
end

def IsNew (l : Int) (w : World) (e : Ending) (w' : World) : Prop := e = .returned (.tuple #[.pointer (some ⟨w.heap.size, 0, none⟩), .int .i64 0]) ∧ Clock w' w.heap.size (· < w.heap.size) (newC l) ∧ Below w.heap.size w w'
theorem new (w : World) (l : Int) (h : badNew l = false) : Calls Try.prog 11 #[.int .u64 l] w (IsNew l w) := by
  simp only [badNew, Bool.or_eq_false_iff, decide_eq_false_iff_not] at h
  obtain ⟨h1, h2⟩ := h
  have hl := heap_alloc_new w (.cells #[.int .u64 l, .int .i64 (-1), .int .u64 0, .int .u64 0, .int .u64 0] 62 (0, 0))
  have HB : Hid (∀ W1, W1 = w.alloc (.cells #[.int .u64 l, .int .i64 (-1), .int .u64 0, .int .u64 0, .int .u64 0] 62 (0, 0)) → Clock W1 w.heap.size (· < w.heap.size) (newC l) ∧ Below w.heap.size w W1) :=
    Lib.hid (by rintro W1 rfl; exact ⟨⟨hl, Nat.lt_irrefl _⟩, alloc1 w _⟩)
  clear hl
  go_enter Try.func11, Try.ntmps11
  go_wp2
  go_ret2
  exact ⟨rfl, HB.out _ rfl⟩
theorem new_none (w : World) (l : Int) (h : badNew l = true) : Calls Try.prog 11 #[.int .u64 l] w (Still (.tuple #[.pointer none, .int .i64 1]) w) := by
  simp only [badNew, Bool.or_eq_true, decide_eq_true_eq] at h
  by_cases h1 : l < 1
  · clear h
    go_enter Try.func11, Try.ntmps11
    go_wp2
    go_ret2
    exact ⟨rfl, rfl⟩
  · have h2 : 1000000000 < l := by omega
    clear h
    go_enter Try.func11, Try.ntmps11
    go_wp2
    go_ret2
    exact ⟨rfl, rfl⟩
end Go.Proofs.Ytfbnnkmjnolnlaa.Turn
