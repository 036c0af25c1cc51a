/- The walk of TurnAll. Conditions: each number is one of its kind. -/
import Derived.Test.YtfbnnkmjnolnlaaTurnLaws
import Derived.Deep.Cut
import Derived.Deep.DeepCutAuto
import Derived.Deep.CutBlock
import Derived.Deep.LoopGhost
namespace Go.Proofs.Ytfbnnkmjnolnlaa.Turn
open Go.ChangeShapes Go.WideShapes Go.ChangeAt Go.RowKit Mem
open Fix (I64)
set_option linter.unusedVariables false
set_option linter.unusedSimpArgs false
set_option maxRecDepth 100000

/-- The deeds as they came in. -/
def DeedsL (v : Option Addr) (len : Nat) (w : World) : Prop := ∀ j, j < len → ∃ kb off, v = some ⟨kb, off, none⟩ ∧ kb < w.heap.size ∧ ∃ (d0 : Bool) (d1 d2 d3 d4 : Int), (I64 d1 ∧ U64 d2 ∧ U64 d3 ∧ U64 d4) ∧
  w.cell? ⟨kb, off + j * 5, none⟩ = some (.bool d0) ∧ w.cell? ⟨kb, off + j * 5 + 1, none⟩ = some (.int .i64 d1) ∧ w.cell? ⟨kb, off + j * 5 + 2, none⟩ = some (.int .u64 d2) ∧ w.cell? ⟨kb, off + j * 5 + 3, none⟩ = some (.int .u64 d3) ∧ w.cell? ⟨kb, off + j * 5 + 4, none⟩ = some (.int .u64 d4)
theorem DeedsL.fresh {v : Option Addr} {len : Nat} {w w' : World} (h : DeedsL v len w) (hg : Below w.heap.size w w') : DeedsL v len w' := by
  intro j hj
  obtain ⟨kb, off, e, hb, d0, d1, d2, d3, d4, z, c0, c1, c2, c3, c4⟩ := h j hj
  exact ⟨kb, off, e, Nat.lt_of_lt_of_le hb hg.size, d0, d1, d2, d3, d4, z, (hg.cell hb).trans c0, (hg.cell hb).trans c1, (hg.cell hb).trans c2, (hg.cell hb).trans c3, (hg.cell hb).trans c4⟩

/-- All that was ticked is there once. -/
structure AllP (c : Ck) (all busy : Int) (k : Nat) : Prop where
  sum : c.busy + c.idle = all
  busy : c.busy = busy
  ran : c.ran ≤ c.busy
  most : all ≤ k * 1000000
theorem top_small {n : Int} (h : n ≤ 18446744073709551615) : top n = n := by unfold top; rw [if_neg (by omega)]

theorem AllP.beg {c : Ck} {all b : Int} {k : Nat} (h : AllP c all b k) (g : Good c) (t : Int) : AllP (begS c t) all b (k + 1) := by
  obtain ⟨h1, h2, h3, h4⟩ := h
  have g1 := g.busy.1
  unfold begS
  split
  · exact ⟨h1, h2, h3, by omega⟩
  · exact ⟨h1, h2, by simp only; omega, by omega⟩
theorem AllP.tick {c : Ck} {all b : Int} {k : Nat} (h : AllP c all b k) (g : Good c) (hk : k ≤ 1000) {n : Int} (n0 : 0 ≤ n) (n1 : n ≤ 1000000) : AllP (tickS c n) (all + n) (if c.task < 0 then b else b + n) (k + 1) := by
  obtain ⟨h1, h2, h3, h4⟩ := h
  have g1 := g.busy.1
  have g2 := g.idle.1
  have g3 := g.ran.1
  unfold tickS
  rw [if_neg (by omega)]
  split
  · rw [top_small (by omega)]; exact ⟨by simp only; omega, by simp only; omega, by simp only; omega, by omega⟩
  · rw [top_small (by omega), top_small (by omega)]; exact ⟨by simp only; omega, by simp only; omega, by simp only; omega, by omega⟩
theorem task_tick (c : Ck) (n : Int) : (tickS c n).task = c.task := by unfold tickS; split <;> (try split) <;> rfl

theorem Held.wide {w0 w : World} {O : Nat → Prop} {b : Nat} {c : Ck} (h : Held w0 O b c w) (hb : w0.heap.size ≤ b) : Held w0 (fun k => k ≠ b ∧ k < w.heap.size) b c w :=
  ⟨⟨h.clk.blk, fun h => h.1 rfl⟩, h.good, fun k hk => hk.2, fun k hk => ⟨by omega, Nat.lt_of_lt_of_le hk h.below.size⟩, h.below⟩
theorem Held.back {w0 w : World} {O : Nat → Prop} {b : Nat} {c : Ck} (h : Held w0 O b c w) (hb : w0.heap.size ≤ b) : Held w0 (· < b) b c w :=
  ⟨⟨h.clk.blk, Nat.lt_irrefl _⟩, h.good, fun k hk => Nat.lt_trans hk h.clk.lt, fun k hk => Nat.lt_of_lt_of_le hk hb, h.below⟩
/-- A deed in its box. -/
def DeedC (d0 : Bool) (d1 d2 d3 d4 : Int) : Obj := .cells #[.bool d0, .int .i64 d1, .int .u64 d2, .int .u64 d3, .int .u64 d4] 34 (0, 0)
theorem deed_at {w w' : World} {d0 : Bool} {d1 d2 d3 d4 : Int} {b : Nat} (hb : b < w.heap.size) (hs : Same (fun k => k ≠ b ∧ k < (w.alloc (DeedC d0 d1 d2 d3 d4)).heap.size) (w.alloc (DeedC d0 d1 d2 d3 d4)) w') :
    w'.cell? ⟨w.heap.size, 0, none⟩ = some (.bool d0) ∧ w'.cell? ⟨w.heap.size, 1, none⟩ = some (.int .i64 d1) ∧ w'.cell? ⟨w.heap.size, 2, none⟩ = some (.int .u64 d2) ∧ w'.cell? ⟨w.heap.size, 3, none⟩ = some (.int .u64 d3) ∧ w'.cell? ⟨w.heap.size, 4, none⟩ = some (.int .u64 d4) ∧ (∀ j, w'.frozen? ⟨w.heap.size, j, none⟩ = false) :=
  five ((hs.block _ ⟨by omega, by simp⟩).trans (heap_alloc_new w _))

def AllI (w1 : World) (b : Nat) (left : Nat) (ta tb ti : Value) (wr : World) : Prop := ∃ (k : Nat) (c : Ck) (all busy : Int), k ≤ 100 ∧ left = 100 - k ∧ ta = .int .u64 all ∧ tb = .int .u64 busy ∧ ti = .int .i64 k ∧ AllP c all busy k ∧ Held w1 (· < b) b c wr
set_option maxHeartbeats 4000000 in
theorem allLaw (v : Option Addr) (len cap : Nat) (w : World) (hlen : len ≤ 9223372036854775807) (hC : DeedsL v len w) :
    Calls Try.prog 5 #[.slice v len cap] w (Yes w) := by
  have HC := Lib.hid (fun w1 (h : Below w.heap.size w w1) => hC.fresh h)
  clear hC
  have C0 := Lib.hid (fun w1 => (new w1 1000 (by rfl)).mono fun e w' r => Held.new (w0 := w1) (⟨by omega, by omega⟩ : U64 1000) (Below.refl _ w1) r)
  go_enter Try.func5, Try.ntmps5
  go_wp2_with fail
  go_at_call 10; refine (awake _).mono ?_; rintro e W1 ⟨rfl, hg1⟩
  replace HC := Lib.hid (HC.out _ hg1)
  go_wp2_with fail
  go_at_call 11; refine (C0.out _).mono ?_; rintro e w2 ⟨rfl, h2, _⟩
  generalize hb : W1.heap.size = b at *
  have I0 : Hid (AllI W1 b 100 (.int .u64 0) (.int .u64 0) (.int .i64 0) w2) := Lib.hid ⟨0, _, 0, 0, by omega, rfl, rfl, rfl, rfl, ⟨rfl, rfl, Int.le_refl _, by omega⟩, h2⟩
  clear h2 C0
  go_wp2_with fail
  go_loopg [6, 7, 8] 100 (fun left ta tb ti wr => AllI W1 b left ta tb ti wr)
  case atStart => exact I0.out
  case round =>
    clear I0
    obtain ⟨k, c, all, busy, hk, rfl, rfl, rfl, rfl, hP, hH⟩ := hrel
    have hg2 := hH.below
    have hbb : W1.heap.size ≤ b := by omega
    by_cases hlt : k < len ∧ k < 100
    · obtain ⟨l1, l2⟩ := hlt
      have q1 : (k : Int) < len := by omega
      have q2 : (k : Int) < 100 := by omega
      obtain ⟨kb, off, rfl, hkb, d0, d1, d2, d3, d4, ⟨z1, z2, z3, z4⟩, c0', c1', c2', c3', c4'⟩ := HC.out k l1
      have c0 := (hg2.cell hkb).trans c0'
      have c1 := (hg2.cell hkb).trans c1'
      have c2 := (hg2.cell hkb).trans c2'
      have c3 := (hg2.cell hkb).trans c3'
      have c4 := (hg2.cell hkb).trans c4'
      clear c0' c1' c2' c3' c4'
      have hbl := hH.clk.lt
      have HW := (hH.fresh (alloc1 wr (DeedC d0 d1 d2 d3 d4))).wide hbb
      cases d0
      · have B := Lib.hid (HW.beg d1 z1.2)
        have NX : Hid (∀ w', Held W1 (fun k => k ≠ b ∧ k < (wr.alloc (DeedC false d1 d2 d3 d4)).heap.size) b (begS c d1) w' → AllI W1 b (100 - (k + 1)) (.int .u64 all) (.int .u64 busy) (.int .i64 ((k : Int) + 1)) w') := Lib.hid fun w' h => ⟨k + 1, _, all, busy, by omega, by omega, rfl, rfl, by go_num, hP.beg hH.good d1, h.back hbb⟩
        unfold DeedC at B NX
        clear hH HW hP
        go_wp2_with fail
        go_at_call 15; refine B.out.mono ?_; rintro e w3 ⟨rfl, h3, s3⟩
        have N := Lib.hid (NX.out _ h3)
        clear h3 s3 NX B
        go_wp2_with fail
        go_roundg (100 - (k + 1))
        case measure => omega
        case rel => exact N.out
      · have d20 : 0 ≤ d2 := z2.1
        have n0 : 0 ≤ d2 % 1000001 := Int.emod_nonneg _ (by omega)
        have n1 : d2 % 1000001 ≤ 1000000 := by have := Int.emod_lt_of_pos d2 (show (0 : Int) < 1000001 by omega); omega
        have TK := Lib.hid (HW.tick (d2 % 1000001) d3 d4 ⟨n0, by omega⟩ z3 z4)
        rw [show tickE (d2 % 1000001) = 0 by unfold tickE; rw [if_neg (by omega)]] at TK
        have P2 := hP.tick hH.good (by omega) n0 n1
        have tk := task_tick c (d2 % 1000001)
        have m4 := hP.most
        have m5 := hP.busy
        have m6 := hP.sum
        have m7 := hH.good.busy.1
        have m8 := hH.good.idle.1
        obtain ⟨n, hn⟩ : ∃ n, d2 % 1000001 = n := ⟨_, rfl⟩
        have NX : Hid (∀ w', Held W1 (fun k => k ≠ b ∧ k < (wr.alloc (DeedC true d1 d2 d3 d4)).heap.size) b (tickS c n) w' → AllI W1 b (100 - (k + 1)) (.int .u64 (all + n)) (.int .u64 (if c.task < 0 then busy else busy + n)) (.int .i64 ((k : Int) + 1)) w') := Lib.hid fun w' h => ⟨k + 1, _, _, _, by omega, by omega, rfl, rfl, by go_num, hn ▸ P2, h.back hbb⟩
        have BX := Lib.hid (fun w' => deed_at (w := wr) (w' := w') (d0 := true) (d1 := d1) (d2 := d2) (d3 := d3) (d4 := d4) hbl)
        have RD := Lib.hid (fun w' (h : Held W1 (fun k => k ≠ b ∧ k < (wr.alloc (DeedC true d1 d2 d3 d4)).heap.size) b (tickS c n) w') => (⟨task w' b _ _ h.clk, ran w' b _ _ h.clk, Turn.busy w' b _ _ h.clk⟩ : _ ∧ _ ∧ _))
        rw [hn] at TK P2 tk n0 n1
        have p3 := P2.ran
        generalize tickB c n d3 d4 = y at *
        generalize tickS c n = c' at *
        generalize c'.ran = r' at *
        generalize c'.busy = s' at *
        generalize c'.task = t' at *
        subst tk
        have p4 : ¬ s' < r' := by omega
        unfold DeedC at TK NX RD BX
        clear hH HW hP P2
        by_cases ht : c.task < 0
        · rw [if_pos ht] at NX
          go_wp2_with fail
          go_at_call 13; (with_reducible refine TK.out.mono ?_); rintro e w3 ⟨rfl, h3, s3⟩
          obtain ⟨x0, x1, x2, x3, x4, xz⟩ := BX.out _ s3
          have N := Lib.hid (NX.out _ h3)
          obtain ⟨r1, r2, r3⟩ := RD.out _ h3
          replace r1 := Lib.hid r1
          replace r2 := Lib.hid r2
          replace r3 := Lib.hid r3
          clear h3 s3 NX TK RD BX
          go_wp2_with (first
            | (go_at_call 17; refine r1.out.mono ?_; rintro e w4 ⟨rfl, rfl⟩)
            | (go_at_call 18; refine r2.out.mono ?_; rintro e w4 ⟨rfl, rfl⟩)
            | (go_at_call 19; refine r3.out.mono ?_; rintro e w4 ⟨rfl, rfl⟩))
          go_roundg (100 - (k + 1))
          case measure => omega
          case rel => exact N.out
        · rw [if_neg ht] at NX
          have hbn : 0 ≤ busy := by omega
          go_wp2_with fail
          go_at_call 13; (with_reducible refine TK.out.mono ?_); rintro e w3 ⟨rfl, h3, s3⟩
          obtain ⟨x0, x1, x2, x3, x4, xz⟩ := BX.out _ s3
          have N := Lib.hid (NX.out _ h3)
          obtain ⟨r1, r2, r3⟩ := RD.out _ h3
          replace r1 := Lib.hid r1
          replace r2 := Lib.hid r2
          replace r3 := Lib.hid r3
          clear h3 s3 NX TK RD BX
          go_wp2_with (first
            | (go_at_call 17; refine r1.out.mono ?_; rintro e w4 ⟨rfl, rfl⟩)
            | (go_at_call 18; refine r2.out.mono ?_; rintro e w4 ⟨rfl, rfl⟩)
            | (go_at_call 19; refine r3.out.mono ?_; rintro e w4 ⟨rfl, rfl⟩))
          go_roundg (100 - (k + 1))
          case measure => omega
          case rel => exact N.out
    · have r2 := Lib.hid (Turn.busy wr b _ _ hH.clk)
      have r3 := Lib.hid (idle wr b _ _ hH.clk)
      have m4 := hP.most
      have m5 := hP.busy
      have m6 := hP.sum
      have m7 := hH.good.busy.1
      have m8 := hH.good.idle.1
      have e1 : (c.busy + c.idle == all) = true := by simpa using m6
      have e2 : (c.busy == busy) = true := by simpa using m5
      have e3 : c.busy + c.idle ≤ 100000000 := by omega
      have FIN := Lib.hid (fresh_trans hg1 hg2)
      clear hH hP m4 m5 m6
      generalize c.busy = s at *
      generalize c.idle = t at *
      by_cases l1 : k < len
      · have q1 : (k : Int) < len := by omega
        have q2 : ¬ (k : Int) < 100 := by omega
        clear hlt HC
        go_wp2_with (first
            | (go_at_call 20; refine r3.out.mono ?_; rintro e w4 ⟨rfl, rfl⟩)
            | (go_at_call 19; refine r2.out.mono ?_; rintro e w4 ⟨rfl, rfl⟩))
        go_ret
        exact ⟨rfl, FIN.out⟩
      · have q1 : ¬ (k : Int) < len := by omega
        clear hlt HC
        go_wp2_with (first
            | (go_at_call 20; refine r3.out.mono ?_; rintro e w4 ⟨rfl, rfl⟩)
            | (go_at_call 19; refine r2.out.mono ?_; rintro e w4 ⟨rfl, rfl⟩))
        go_ret
        exact ⟨rfl, FIN.out⟩
end Go.Proofs.Ytfbnnkmjnolnlaa.Turn
