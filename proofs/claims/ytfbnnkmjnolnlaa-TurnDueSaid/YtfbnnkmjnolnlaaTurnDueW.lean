/- The walk of TurnDue. Conditions: each number is one of its kind. -/
import Derived.Test.YtfbnnkmjnolnlaaTurnAllW
namespace Go.Proofs.Ytfbnnkmjnolnlaa.Turn
open Go.ChangeShapes Go.WideShapes Go.ChangeAt Go.RowKit Mem
open Fix (I64)
set_option linter.unusedVariables false
set_option linter.unusedSimpArgs false
set_option maxRecDepth 100000

/-- The pieces as they came in. -/
def PiecesL (v : Option Addr) (len : Nat) (z : Nat → Int) (w : World) : Prop := ∀ j, j < len → ∃ kb off, v = some ⟨kb, off, none⟩ ∧ kb < w.heap.size ∧ (0 ≤ z j ∧ z j ≤ 65535) ∧ w.cell? ⟨kb, off + j, none⟩ = some (.int .u16 (z j))
theorem PiecesL.fresh {v : Option Addr} {len : Nat} {z : Nat → Int} {w w' : World} (h : PiecesL v len z w) (hg : Below w.heap.size w w') : PiecesL v len z w' := by
  intro j hj
  obtain ⟨kb, off, e, hb, hz, c0⟩ := h j hj
  exact ⟨kb, off, e, Nat.lt_of_lt_of_le hb hg.size, hz, (hg.cell hb).trans c0⟩
/-- One that serves the first task since it began. -/
def one (l r : Int) : Ck := ⟨l, 1, r, r, 0⟩
theorem one_beg (l : Int) : begS (newC l) 1 = one l 0 := by rfl
theorem one_same (l r : Int) : begS (one l r) 1 = one l r := by rfl
theorem one_other (l r : Int) : begS (one l r) 2 = ⟨l, 2, 0, r, 0⟩ := by rfl
theorem one_tick {l r n : Int} (h0 : 0 ≤ r) (h1 : r ≤ 100000000) (n0 : 0 ≤ n) (n1 : n ≤ 65535) : tickS (one l r) n = one l (r + n) := by
  unfold tickS one
  rw [if_neg (by omega), if_neg (by simp only; omega)]
  simp only [top_small (show r + n ≤ 18446744073709551615 by omega)]
theorem one_over {l r n x d : Int} (h0 : 0 ≤ r) (h1 : r ≤ 100000000) (n0 : 0 ≤ n) (n1 : n ≤ 65535) : tickB (one l r) n x d = decide (slice l x d ≤ r + n) := by
  unfold tickB one
  rw [if_neg (by omega), if_neg (by simp only; omega)]
  simp only [top_small (show r + n ≤ 18446744073709551615 by omega)]
theorem slice_pos {l x d : Int} (hl : 1 ≤ l) : 1 ≤ slice l x d := by unfold slice; split <;> (try split) <;> omega

def DueI (w1 : World) (b : Nat) (l : Int) (left : Nat) (tr ti : Value) (wr : World) : Prop := ∃ (k : Nat) (r : Int), k ≤ 60 ∧ left = 60 - k ∧ tr = .int .u64 r ∧ ti = .int .i64 k ∧ 0 ≤ r ∧ r ≤ k * 65535 ∧ Held w1 (· < b) b (one l r) wr
set_option maxHeartbeats 4000000 in
theorem dueLaw (y p q : Int) (v : Option Addr) (len cap : Nat) (z : Nat → Int) (w : World) (hy : 0 ≤ y ∧ y ≤ 4294967295) (hp : 0 ≤ p ∧ p ≤ 65535) (hq : 0 ≤ q ∧ q ≤ 65535) (hlen : len ≤ 9223372036854775807) (hC : PiecesL v len z w) :
    Calls Try.prog 7 #[.agg #[.int .u32 y, .int .u16 p, .int .u16 q, .slice v len cap]] w (Yes w) := by
  have hgA := alloc1 w (.cells #[.int .u32 y, .int .u16 p, .int .u16 q, .slice v len cap] 56)
  have hA := heap_alloc_new w (.cells #[.int .u32 y, .int .u16 p, .int .u16 q, .slice v len cap] 56 (0, 0))
  have HC := Lib.hid (fun w1 (h : Below w.heap.size w w1) => hC.fresh h)
  clear hC
  go_enter Try.func7, Try.ntmps7
  go_wp2_with fail
  generalize w.alloc (.cells #[.int .u32 y, .int .u16 p, .int .u16 q, .slice v len cap] 56) = W at *
  go_at_call 10; refine (awake _).mono ?_; rintro e W1 ⟨rfl, hg1⟩
  obtain ⟨a0, a1, a2, a3, az⟩ := four (box_fresh hA hg1)
  replace hg1 := hgA.trans (hg1.mono hgA.size)
  replace HC := Lib.hid (HC.out _ hg1)
  clear hA hgA
  have l0 : 0 ≤ y % 1000000 := Int.emod_nonneg _ (by omega)
  have l1 : y % 1000000 ≤ 999999 := by have := Int.emod_lt_of_pos y (show (0 : Int) < 1000000 by omega); omega
  obtain ⟨m, hm⟩ : ∃ m, y % 1000000 = m := ⟨_, rfl⟩
  rw [hm] at l0 l1
  have C0 := Lib.hid (fun w1 => (new w1 (1 + m) (by unfold badNew; simp; omega)).mono fun e w' r => Held.new (w0 := w1) (⟨by omega, by omega⟩ : U64 (1 + m)) (Below.refl _ w1) r)
  have SL := Lib.hid (fun w1 => slices w1 (1 + m) (2 + p) (2 + p + q) ⟨by omega, by omega⟩ ⟨by omega, by omega⟩ ⟨by omega, by omega⟩)
  go_wp2_with fail
  go_at_call 11; (with_reducible refine (C0.out _).mono ?_); rintro e w2 ⟨rfl, h2, s2⟩
  have A2 : w2.cell? ⟨w.heap.size, 1, none⟩ = some (.int .u16 p) ∧ w2.cell? ⟨w.heap.size, 2, none⟩ = some (.int .u16 q) := ⟨(h2.below.cell (World.block_lt_of_cell? _ _ a1)).trans a1, (h2.below.cell (World.block_lt_of_cell? _ _ a2)).trans a2⟩
  obtain ⟨b1, b2⟩ := A2
  clear a0 a1 a2 a3 az C0 s2
  generalize hb : W1.heap.size = b at *
  go_wp2_with fail
  go_at_call 21; (with_reducible refine (SL.out _).mono ?_); rintro e w3 ⟨rfl, hg3⟩
  have h3 := h2.fresh hg3
  have BG := Lib.hid (h3.beg 1 (by omega))
  rw [one_beg] at BG
  clear h2 h3 hg3 b1 b2
  have hs1 := slice_pos (l := 1 + m) (x := 2 + p) (d := 2 + p + q) (by omega)
  obtain ⟨s, hs⟩ : ∃ s, slice (1 + m) (2 + p) (2 + p + q) = s := ⟨_, rfl⟩
  have HS := Lib.hid hs
  rw [hs] at hs1
  have EN := Lib.hid (fun w' (r : Int) (h0 : 0 ≤ r) (h : Held W1 (· < b) b (one (1 + m) r) w') => (⟨h.beg 1 (by omega), ran w' b _ _ h.clk⟩ : _ ∧ _))
  have EN2 := Lib.hid (fun w' (r : Int) (h0 : 0 ≤ r) (h : Held W1 (· < b) b (one (1 + m) r) w') => h.beg 2 (by omega))
  have EN3 := Lib.hid (fun w' (r : Int) (h0 : 0 ≤ r) (h : Held W1 (· < b) b ⟨1 + m, 2, 0, r, 0⟩ w') => (⟨ran w' b _ _ h.clk, h.tick 0 (2 + p) (2 + p + q) ⟨by omega, by omega⟩ ⟨by omega, by omega⟩ ⟨by omega, by omega⟩⟩ : _ ∧ _))
  have TB : ∀ r : Int, tickB ⟨1 + m, 2, 0, r, 0⟩ 0 (2 + p) (2 + p + q) = false := by
    intro r
    unfold tickB
    rw [if_neg (by omega), if_neg (by simp only; omega)]
    simp only [hs, show top (0 + 0) = 0 from rfl]
    simp; omega
  simp only [TB, one_same, one_other, show tickE 0 = 0 from rfl] at EN EN2 EN3
  clear TB
  have TK := Lib.hid (fun w' r (n : Int) (h0 : 0 ≤ r) (h1 : r ≤ 100000000) (n0 : 0 ≤ n) (n1 : n ≤ 65535) (h : Held W1 (· < b) b (one (1 + m) r) w') => by
    have := h.tick n (2 + p) (2 + p + q) ⟨n0, by omega⟩ ⟨by omega, by omega⟩ ⟨by omega, by omega⟩
    rw [one_tick h0 h1 n0 n1, one_over h0 h1 n0 n1, hs, show tickE n = 0 by unfold tickE; rw [if_neg (by omega)]] at this
    exact this)
  simp only [hs]
  clear hs SL
  go_wp2_with fail
  go_at_call 15; (with_reducible refine BG.out.mono ?_); rintro e w4 ⟨rfl, h4, s4⟩
  have I0 : Hid (DueI W1 b (1 + m) 60 (.int .u64 0) (.int .i64 0) w4) := Lib.hid ⟨0, 0, by omega, rfl, rfl, rfl, by omega, by omega, h4⟩
  clear h4 s4 BG
  go_wp2_with fail
  go_loopg [11, 12] 60 (fun left tr ti wr => DueI W1 b (1 + m) left tr ti wr)
  case atStart => exact I0.out
  case round =>
    clear I0
    obtain ⟨k, r, hk, rfl, rfl, rfl, r0, r1, hH⟩ := hrel
    have hg2 := hH.below
    by_cases hlt : k < len ∧ k < 60
    · obtain ⟨l1', l2⟩ := hlt
      have q1 : (k : Int) < len := by omega
      have q2 : (k : Int) < 60 := by omega
      obtain ⟨kb, off, rfl, hkb, ⟨z0, z1⟩, c0'⟩ := HC.out k l1'
      have c0 := (hg2.cell hkb).trans c0'
      generalize z k = n at *
      have C0' := Lib.hid c0'
      clear c0'
      have T := Lib.hid (TK.out _ r n r0 (by omega) z0 z1 hH)
      have NX : Hid (∀ w', Held W1 (· < b) b (one (1 + m) (r + n)) w' → DueI W1 b (1 + m) (60 - (k + 1)) (.int .u64 (r + n)) (.int .i64 ((k : Int) + 1)) w' ∧ Calls Try.prog 18 #[.pointer (some ⟨b, 0, none⟩)] w' (Still (.int .u64 (r + n)) w')) := Lib.hid fun w' h => ⟨⟨k + 1, _, by omega, by omega, rfl, by go_num, by omega, by omega, h⟩, ran w' b _ _ h.clk⟩
      have hrr : (r + n == r + n) = true := by simp
      clear hH
      by_cases hsl : s ≤ r + n
      all_goals
        simp only [hsl, decide_true, decide_false] at T
        go_wp2_with fail
        go_at_call 13; (with_reducible refine T.out.mono ?_); rintro e w5 ⟨rfl, h5, s5⟩
        obtain ⟨N, R⟩ := NX.out _ h5
        have c5 := (h5.below.cell hkb).trans C0'.out
        clear c0
        replace N := Lib.hid N
        replace R := Lib.hid R
        clear h5 s5 T NX TK EN EN2 EN3
        go_wp2_with (first | (go_at_call 18; (with_reducible refine R.out.mono ?_); rintro e w9 ⟨rfl, rfl⟩))
        go_roundg (60 - (k + 1))
        case measure => omega
        case rel => exact N.out
    · obtain ⟨e1, e2⟩ := EN.out _ _ r0 hH
      replace e1 := Lib.hid e1
      clear hH e2
      have hrr : (r == r) = true := by simp
      have hcond : (¬ (k : Int) < len) ∨ ((k : Int) < len ∧ ¬ (k : Int) < 60) := by omega
      clear hlt
      rcases hcond with q1 | ⟨q1, q2⟩
      all_goals
        go_wp2_with fail
        go_at_call 15; (with_reducible refine e1.out.mono ?_); rintro e w5 ⟨rfl, h5, s5⟩
        obtain ⟨-, e2⟩ := EN.out _ _ r0 h5
        have e3 := EN2.out _ _ r0 h5
        clear h5 s5
        go_wp2_with fail
        go_at_call 18; (with_reducible refine e2.mono ?_); rintro e w9 ⟨rfl, rfl⟩
        replace e3 := Lib.hid e3
        clear e2
        go_wp2_with fail
        go_at_call 15; (with_reducible refine e3.out.mono ?_); rintro e w6 ⟨rfl, h6, s6⟩
        obtain ⟨e4, e5⟩ := EN3.out _ _ r0 h6
        replace e4 := Lib.hid e4
        replace e5 := Lib.hid e5
        clear h6 s6
        go_wp2_with fail
        go_at_call 18; refine e4.out.mono ?_; rintro e w9 ⟨rfl, rfl⟩
        go_wp2_with fail
        go_at_call 13; (with_reducible refine e5.out.mono ?_); rintro e w7 ⟨rfl, h7, s7⟩
        have hb7 := h7.below
        clear h7 s7
        go_wp2_with fail
        go_ret
        exact ⟨rfl, hg1.trans (hb7.mono hg1.size)⟩
end Go.Proofs.Ytfbnnkmjnolnlaa.Turn
