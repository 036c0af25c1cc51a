/- A clock held by a caller; that it works at all (awake); a clock that is nil. Conditions: none. -/
import Derived.Test.YtfbnnkmjnolnlaaTurnTick
namespace Go.Proofs.Ytfbnnkmjnolnlaa.Turn
open Go.ChangeShapes Go.WideShapes Go.ChangeAt Go.RowKit Mem
set_option linter.unusedVariables false
set_option linter.unusedSimpArgs false
set_option maxRecDepth 100000

def Yes (w : World) (e : Ending) (w' : World) : Prop := e = .returned (.bool true) ∧ Below w.heap.size w w'

/-- A clock that a caller holds, who came in at world w0; the blocks of O are held apart from it. -/
structure Held (w0 : World) (O : Nat → Prop) (b : Nat) (c : Ck) (w : World) : Prop where
  clk : Clock w b O c
  good : Good c
  lt : ∀ k, O k → k < w.heap.size
  sub : ∀ k, k < w0.heap.size → O k
  below : Below w0.heap.size w0 w
def Res (v : Value) (w0 : World) (O : Nat → Prop) (b : Nat) (c : Ck) (w : World) (e : Ending) (w' : World) : Prop := e = .returned v ∧ Held w0 O b c w' ∧ Same O w w'

section
variable {w0 w w' : World} {O : Nat → Prop} {b : Nat} {c : Ck}
theorem Held.fresh (h : Held w0 O b c w) (hg : Below w.heap.size w w') : Held w0 O b c w' :=
  ⟨h.clk.fresh hg, h.good, fun k hk => Nat.lt_of_lt_of_le (h.lt k hk) hg.size, h.sub, h.below.trans (hg.mono h.below.size)⟩
theorem Held.did {v : Value} {c' : Ck} (h : Held w0 O b c w) (g : Good c') {e : Ending} (r : Did v c' b O w e w') : Res v w0 O b c' w e w' :=
  ⟨r.1, ⟨r.2.1, g, fun k hk => Nat.lt_of_lt_of_le (h.lt k hk) r.2.2.size, h.sub, h.below.trans (r.2.2.mono h.sub).below⟩, r.2.2⟩
theorem Held.new {w : World} {l : Int} (hl : U64 l) (hb : Below w0.heap.size w0 w) {e : Ending} {w' : World} (h : IsNew l w e w') : Res (.tuple #[.pointer (some ⟨w.heap.size, 0, none⟩), .int .i64 0]) w0 (· < w.heap.size) w.heap.size (newC l) w e w' :=
  ⟨h.1, ⟨h.2.1, Good.new hl, fun k hk => Nat.lt_of_lt_of_le hk h.2.2.size, fun k hk => Nat.lt_of_lt_of_le hk hb.size, hb.trans (h.2.2.mono hb.size)⟩, Same.of h.2.2 fun _ h => h⟩
theorem Held.beg (h : Held w0 O b c w) (t : Int) (ht : t ≤ 9223372036854775807) : Calls Try.prog 15 #[.pointer (some ⟨b, 0, none⟩), .int .i64 t] w (Res (.tuple #[]) w0 O b (begS c t) w) :=
  (begin' w b O c h.clk t).mono fun e w' r => h.did (h.good.beg ht) r
theorem Held.tick (h : Held w0 O b c w) (n x d : Int) (hn : U64 n) (hx : U64 x) (hd : U64 d) : Calls Try.prog 13 #[.pointer (some ⟨b, 0, none⟩), .int .u64 n, .int .u64 x, .int .u64 d] w (Res (.tuple #[.bool (tickB c n x d), .int .i64 (tickE n)]) w0 O b (tickS c n) w) :=
  (Turn.tick w b O c n x d h.clk h.lt h.good hn hx hd).mono fun e w' r => h.did (h.good.tick hn.1) r
end

def a1 : Ck := ⟨6000, 4, 0, 0, 0⟩
def a2 : Ck := ⟨6000, 4, 1500, 1500, 0⟩
def a3 : Ck := ⟨6000, 4, 2000, 2000, 0⟩
theorem e1 : begS (newC 6000) 4 = a1 := by rfl
theorem e2 : tickS a1 1500 = a2 ∧ tickB a1 1500 1024 3072 = false ∧ tickE 1500 = 0 := ⟨by rfl, by rfl, by rfl⟩
theorem e3 : tickS a2 500 = a3 ∧ tickB a2 500 1024 3072 = true ∧ tickE 500 = 0 := ⟨by rfl, by rfl, by rfl⟩
theorem e4 : slice 6000 1024 3072 = 2000 := by rfl

set_option maxHeartbeats 1000000 in
theorem awake (w : World) : Calls Try.prog 10 #[] w (Yes w) := by
  have u0 : U64 6000 := by simp [U64]
  have u1 : U64 1500 := by simp [U64]
  have u2 : U64 500 := by simp [U64]
  have u3 : U64 1024 := by simp [U64]
  have u4 : U64 3072 := by simp [U64]
  have C0 := Lib.hid (fun w1 (hb : Below w.heap.size w w1) => (new w1 6000 (by rfl)).mono fun e w' r => Held.new u0 hb r)
  have C1 := Lib.hid (fun w1 O b (h : Held w O b (newC 6000) w1) => h.beg 4 (by omega))
  rw [e1] at C1
  have C2 := Lib.hid (fun w1 O b (h : Held w O b a1 w1) => h.tick 1500 1024 3072 u1 u3 u4)
  rw [e2.1, e2.2.1, e2.2.2] at C2
  have C3 := Lib.hid (fun w1 O b (h : Held w O b a2 w1) => h.tick 500 1024 3072 u2 u3 u4)
  rw [e3.1, e3.2.1, e3.2.2] at C3
  have C4 := Lib.hid (fun w1 => slices w1 6000 1024 3072 u0 u3 u4)
  rw [e4] at C4
  have C5 := Lib.hid (fun w1 O b (h : Held w O b a3 w1) => ran w1 b O a3 h.clk)
  rw [show a3.ran = 2000 from rfl] at C5
  have C6 := Lib.hid (fun w1 O b (h : Held w O b a3 w1) => task w1 b O a3 h.clk)
  rw [show a3.task = 4 from rfl] at C6
  clear u0 u1 u2 u3 u4
  have hg := Below.refl w.heap.size w
  go_enter Try.func10, Try.ntmps10
  go_wp2_with fail
  go_at_call 11; refine (C0.out _ hg).mono ?_; rintro e w1 ⟨rfl, h1, _⟩
  go_wp2_with fail
  go_at_call 15; refine (C1.out _ _ _ h1).mono ?_; rintro e w2 ⟨rfl, h2, _⟩
  go_wp2_with fail
  go_at_call 13; refine (C2.out _ _ _ h2).mono ?_; rintro e w3 ⟨rfl, h3, _⟩
  go_wp2_with fail
  go_at_call 13; refine (C3.out _ _ _ h3).mono ?_; rintro e w4 ⟨rfl, h4, _⟩
  go_wp2_with fail
  go_at_call 21; refine (C4.out _).mono ?_; rintro e w5 ⟨rfl, hg5⟩
  have h5 := h4.fresh hg5
  go_wp2_with fail
  go_at_call 18; refine (C5.out _ _ _ h5).mono ?_; rintro e w7 ⟨rfl, rfl⟩
  go_wp2_with fail
  go_at_call 17; refine (C6.out _ _ _ h5).mono ?_; rintro e w7 ⟨rfl, rfl⟩
  go_wp2_with fail
  go_ret
  exact ⟨rfl, h5.below⟩

theorem nobodyLaw (t n : Int) (w : World) (hn : U64 n) : Calls Try.prog 9 #[.int .i64 t, .int .u64 n] w (Yes w) := by
  have A := Lib.hid (awake w)
  go_enter Try.func9, Try.ntmps9
  go_wp2_with fail
  go_at_call 10; refine A.out.mono ?_; rintro e w1 ⟨rfl, hg⟩
  go_wp2_with fail
  go_at_call 15; refine (begin_nil _ t).mono ?_; rintro e w2 ⟨rfl, rfl⟩
  go_wp2_with fail
  go_at_call 13; refine (tick_nil _ n 1024 1024).mono ?_; rintro e w2 ⟨rfl, rfl⟩
  go_wp2_with (first
    | (go_at_call 17; refine (task_nil _).mono ?_; rintro e w2 ⟨rfl, rfl⟩)
    | (go_at_call 18; refine (ran_nil _).mono ?_; rintro e w2 ⟨rfl, rfl⟩)
    | (go_at_call 19; refine (busy_nil _).mono ?_; rintro e w2 ⟨rfl, rfl⟩)
    | (go_at_call 20; refine (idle_nil _).mono ?_; rintro e w2 ⟨rfl, rfl⟩))
  go_ret
  exact ⟨rfl, hg⟩
end Go.Proofs.Ytfbnnkmjnolnlaa.Turn
