/- The law RunqAlone, walked. Conditions: each argument is a number of its kind. -/
import Derived.Test.YtobfcdjahlhkgaaRunqWake
import Derived.Test.YtobfcdjahlhkgaaRunqAloneP
import Derived.Test.YtobfcdjahlhkgaaQueueSame
import Derived.Test.YtobfcdjahlhkgaaQueueYield
import Derived.Test.YtobfcdjahlhkgaaWideMul
namespace Go.Proofs.Ytobfcdjahlhkgaa.Queue
open Go.ChangeShapes Go.WideShapes Go.ChangeAt Go.RowKit Tree
set_option linter.unusedVariables false
set_option linter.unusedSimpArgs false
set_option maxRecDepth 100000

theorem heavys (x : Int) (w : World) (h1 : 0 ≤ x) (h2 : x ≤ 4294967295) : Calls Try.prog 31 #[.int .u32 x] w (Still (.int .u64 (64 + x % 4032)) w) := by
  go_enter Try.func31, Try.ntmps31
  go_wp2
  go_ret
  exact ⟨rfl, rfl⟩

/-- A slice of numbers of 32 bits that came in. -/
def Nums (u : Option Addr) (len : Nat) (w : World) : Prop := ∀ j, j < len → ∃ (k off : Nat) (z : Int), u = some ⟨k, off, none⟩ ∧ k < w.heap.size ∧ 0 ≤ z ∧ z ≤ 4294967295 ∧ w.cell? ⟨k, off + j, none⟩ = some (.int .u32 z)
theorem Nums.on {u : Option Addr} {len : Nat} {w w' : World} (h : Nums u len w) (g : Same (· < w.heap.size) w w') : Nums u len w' := by
  intro j hj
  obtain ⟨k, off, z, rfl, hk, z1, z2, c⟩ := h j hj
  exact ⟨k, off, z, rfl, Nat.lt_of_lt_of_le hk g.size, z1, z2, (g.below.cell (p := ⟨k, _, none⟩) hk).trans c⟩

def AloneI (w : World) (q len : Nat) (wt : Int) (left : Nat) (a i : Value) (wr : World) : Prop := ∃ (j : Nat) (A cur : Int), j ≤ len ∧ j ≤ 60 ∧ left = 61 - j ∧ i = .int .i64 j ∧ a = .int .u64 A ∧ 0 ≤ A ∧ A ≤ 10000000 * j ∧ Hid ((cur = -1 ∨ cur = 3) ∧ Qu wr q (· < w.heap.size) (lone wt A cur) ∧ Same (· < w.heap.size) w wr)

theorem lone_min (wt A cur : Int) : (lone wt A cur).min = 1024 * A / wt := rfl
theorem lone_total (wt A cur : Int) : total (lone wt A cur).es = wt := by simp [total, lone, one3]

theorem lone_pick (w : World) (q : Nat) (O : Nat → Prop) (wt A cur g : Int) (h1 : 64 ≤ wt) (h2 : wt ≤ 4095) (a1 : 0 ≤ A) (a2 : A ≤ 600000000) (hc : cur = -1 ∨ cur = 3) (hg : I64 g) (h : Qu w q O (lone wt A cur)) (hO : ∀ k, O k → k < w.heap.size) :
    Calls Try.prog 19 #[.pointer (some ⟨q, 0, none⟩), .int .i64 g] w (Did (.int .i64 3) (lone wt A 3) q O w) := by
  have hs := lone_sound (cur := cur) h1 h2 a1 a2 hc
  have := picks w q O (lone wt A cur) g h hO hs.once hs.cur hg (fun e he => (hs.each e he).2.2.2.2.2.2)
  rw [lone_chosen wt A cur g hc] at this
  exact this
theorem lone_charges (w : World) (q : Nat) (O : Nat → Prop) (wt A ns : Int) (h1 : 64 ≤ wt) (h2 : wt ≤ 4095) (a1 : 0 ≤ A) (n1 : 0 ≤ ns) (n2 : ns ≤ 10000000) (a2 : A + ns ≤ 600000000) (h : Qu w q O (lone wt A 3)) (hO : ∀ k, O k → k < w.heap.size) :
    Calls Try.prog 17 #[.pointer (some ⟨q, 0, none⟩), .int .u64 ns] w (Did (.int .i64 0) (lone wt (A + ns) 3) q O w) := by
  have hs := lone_sound (cur := 3) h1 h2 a1 (by omega) (.inr rfl)
  have := charges w q O (lone wt A 3) ns h hO hs n1
  obtain ⟨e1, e2⟩ := lone_charge wt A ns h1 h2 a1 n1 n2 a2
  rw [e1, e2] at this
  exact this
theorem lone_yield (w : World) (q : Nat) (O : Nat → Prop) (wt A g : Int) (h1 : 64 ≤ wt) (h2 : wt ≤ 4095) (a1 : 0 ≤ A) (a2 : A ≤ 600000000) (hg : I64 g) (h : Qu w q O (lone wt A 3)) (hO : ∀ k, O k → k < w.heap.size) :
    Calls Try.prog 21 #[.pointer (some ⟨q, 0, none⟩), .int .i64 g] w (Did (.int .i64 3) (lone wt A 3) q O w) := by
  have hs := lone_sound (cur := 3) h1 h2 a1 a2 (.inr rfl)
  have := yields0 w q O (lone wt A 3) g h hO hs.once hs.cur hg (fun e he => (hs.each e he).2.2.2.2.2.2) (lone_other wt A)
  rw [lone_chosen wt A 3 g (.inr rfl)] at this
  exact this

set_option maxHeartbeats 40000000 in
theorem aloneLaw (x : Int) (u : Option Addr) (len cap : Nat) (g : Int) (w : World) (hx : 0 ≤ x) (hx2 : x ≤ 4294967295) (hl : len ≤ 9223372036854775807) (hE : Nums u len w) (hgr : I64 g) :
    Calls Try.prog 7 #[.int .u32 x, .slice u len cap, .int .i64 g] w (IsTrue w) := by
  have CE := Lib.hid hE
  clear hE
  have A := Lib.hid (awake w)
  have HV := Lib.hid (fun w => heavys x w hx hx2)
  obtain ⟨wt, hwt, wl, wh⟩ : ∃ wt : Int, 64 + x % 4032 = wt ∧ 64 ≤ wt ∧ wt ≤ 4095 := ⟨_, rfl, by omega, by omega⟩
  rw [hwt] at HV
  obtain ⟨lp1, lp2⟩ := lone_put wt wl wh
  have GR := Lib.hid hgr
  clear hwt hgr
  go_enter Try.func7, Try.ntmps7
  go_wp2_with (first
    | (go_at_call 8; refine (A.out).mono ?_; rintro e w0 ⟨rfl, hg0⟩)
    | (go_at_call 9; refine (news w0).mono ?_; rintro e w1 ⟨q, hq, rfl, hg1, hb⟩)
    | (go_at_call 31; refine (HV.out _).mono ?_; rintro e w9 ⟨rfl, hw⟩; subst hw))
  have Q := Lib.hid (hb (· < w.heap.size) (fun b hb => Nat.lt_of_lt_of_le hb hg0.size))
  have S : Hid (Same (· < w.heap.size) w w1) := Same.of (fresh_trans hg0 hg1) (fun i hi => hi)
  clear hg0 hg1 hb A
  have P := Lib.hid (puts w1 q (· < w.heap.size) St.new ⟨3, wt, 0, 0⟩ Q.out (fun k hk => Nat.lt_of_lt_of_le hk S.out.size) (by simp [I64]) (by simp; omega) (by simp) (by simp [St.new]))
  rw [lp1, lp2] at P
  simp only [Ent.val] at P
  refine P.out.mono ?_
  rintro e w3 ⟨rfl, hq3, hs3⟩
  have start : Hid (AloneI w q len wt 61 (.int .u64 0) (.int .i64 0) w3) := Lib.hid ⟨0, 0, -1, by omega, by omega, rfl, rfl, rfl, by omega, by omega, Lib.hid ⟨.inl rfl, hq3, S.out.trans hs3⟩⟩
  clear Q S P hq3 hs3 lp1 lp2
  go_wp2_with fail
  go_loopg [9, 10] 61 (fun left a i wr => AloneI w q len wt left a i wr)
  case atStart => exact start.out
  case round =>
    obtain ⟨j, A, cur, hj, hj60, rfl, rfl, rfl, hA, hA2, H⟩ := hrel
    by_cases hjj : j < len ∧ j < 60
    · obtain ⟨h1, h2⟩ := hjj
      have hjl1 : (j : Int) < len := by omega
      have hjl2 : (j : Int) < 60 := by omega
      obtain ⟨k, off, z, rfl, hk, z1, z2, c0⟩ := (CE.out.on H.out.2.2) j h1
      have K1 : Hid (∀ w', Qu w' q (· < w.heap.size) (lone wt A cur) → (∀ k, k < w.heap.size → k < w'.heap.size) → Calls Try.prog 19 #[.pointer (some ⟨q, 0, none⟩), .int .i64 g] w' (Did (.int .i64 3) (lone wt A 3) q (· < w.heap.size) w')) := Lib.hid (fun w' h hO => lone_pick w' q _ wt A cur g wl wh hA (by omega) H.out.1 GR.out h hO)
      have C1 : Hid (∀ w', Qu w' q (· < w.heap.size) (lone wt A 3) → (∀ k, k < w.heap.size → k < w'.heap.size) → Calls Try.prog 17 #[.pointer (some ⟨q, 0, none⟩), .int .u64 (z % 10000000)] w' (Did (.int .i64 0) (lone wt (A + z % 10000000) 3) q (· < w.heap.size) w')) := Lib.hid (fun w' h hO => lone_charges w' q _ wt A (z % 10000000) wl wh hA (by omega) (by omega) (by omega) h hO)
      have Y1 : Hid (∀ w', Qu w' q (· < w.heap.size) (lone wt (A + z % 10000000) 3) → (∀ k, k < w.heap.size → k < w'.heap.size) → Calls Try.prog 21 #[.pointer (some ⟨q, 0, none⟩), .int .i64 g] w' (Did (.int .i64 3) (lone wt (A + z % 10000000) 3) q (· < w.heap.size) w')) := Lib.hid (fun w' h hO => lone_yield w' q _ wt (A + z % 10000000) g wl wh (by omega) (by omega) GR.out h hO)
      go_wp2_with (first
        | (go_at_call 19; refine (K1.out _ H.out.2.1 (fun k hk => Nat.lt_of_lt_of_le hk H.out.2.2.size)).mono ?_; rintro e v1 ⟨rfl, q1, s1⟩; have S1 := Lib.hid (H.out.2.2.trans s1); have Q1 := Lib.hid q1; clear q1 s1)
        | (go_at_call 17; refine (C1.out _ Q1.out (fun k hk => Nat.lt_of_lt_of_le hk S1.out.size)).mono ?_; rintro e v2 ⟨rfl, q2, s2⟩; have S2 := Lib.hid (S1.out.trans s2); have Q2 := Lib.hid q2; clear q2 s2)
        | (go_at_call 21; refine (Y1.out _ Q2.out (fun k hk => Nat.lt_of_lt_of_le hk S2.out.size)).mono ?_; rintro e v3 ⟨rfl, q3, s3⟩; have S3 := Lib.hid (S2.out.trans s3); have Q3 := Lib.hid q3; clear q3 s3))
      go_roundg (61 - (j + 1))
      case measure => omega
      case rel => exact ⟨j + 1, A + z % 10000000, 3, by omega, by omega, by omega, by go_num, by go_num, by omega, by omega, Lib.hid ⟨.inr rfl, Q3.out, S3.out⟩⟩
    · have T : (¬ (j : Int) < len) ∨ ((j : Int) < len ∧ ¬ (j : Int) < 60) := by omega
      obtain ⟨hc, hq, hS⟩ := H.out
      have hso := lone_sound (cur := cur) wl wh hA (show A ≤ 600000000 by omega) hc
      obtain ⟨b1, b2, b3, b4⟩ := lone_bd wl wh hA (show A ≤ 600000000 by omega)
      have MD := Lib.hid (fun w => Wide.mulDiv A 1024 wt w ⟨by omega, by omega⟩ ⟨by omega, by omega⟩ ⟨by omega, by omega⟩)
      have eq : Wide.quo A 1024 wt = 1024 * A / wt := by
        unfold Wide.quo
        rw [show A * 1024 = 1024 * A by omega, if_pos ⟨by omega, by omega⟩]
      rw [eq] at MD
      have Q := Lib.hid hq
      have S := Lib.hid hS
      have SO := Lib.hid hso
      have EN := Lib.hid (fun w' (g : Below wr.heap.size wr w') => ents w' q _ (lone wt A cur) (Q.out.fresh g) SO.out.once (fun e he => by have := SO.out.each e he; unfold I64; omega) (Nat.le_trans SO.out.few (by omega)))
      have MN := Lib.hid (fun w' (g : Below wr.heap.size wr w') => minss w' q _ (lone wt A cur) (Q.out.fresh g))
      have LD := Lib.hid (fun w' (g : Below wr.heap.size wr w') => loads w' q _ (lone wt A cur) (Q.out.fresh g) SO.out.once (fun e he => by have := SO.out.each e he; omega) (Nat.le_trans SO.out.few (by omega)))
      rw [lone_min] at MN
      rw [lone_total] at LD
      clear hq hS hso eq H
      have hb0 := Below.refl wr.heap.size wr
      rcases T with h1 | ⟨h1, h2⟩
      all_goals
        go_wp2_with (first
          | (go_at_call 31; refine (HV.out _).mono ?_; rintro e w9 ⟨rfl, hw⟩; subst hw)
          | (go_at_call 32; refine (MD.out _).mono ?_; rintro e v1 ⟨rfl, hg1⟩; replace hb0 := fresh_trans hb0 hg1; clear hg1))
        refine (EN.out _ hb0).mono ?_
        rintro e v2 ⟨v, rfl, R, hg2⟩
        replace hb0 := fresh_trans hb0 hg2
        rw [show (lone wt A cur).es.length = 1 from rfl] at R
        obtain ⟨ao, cp, rfl, hao, hcp⟩ := R.shape
        obtain ⟨g', rfl, hg', c0, c1, c2, c3⟩ := R.lst rfl 0 (one3 wt A) rfl
        simp only [Nat.zero_mul, Nat.zero_add, one3] at c0 c1 c2 c3
        clear R hg2 hao c0 c1 c3
        generalize 1024 * A / wt = V at *
        go_wp2_with (first
          | (go_at_call 27; refine (MN.out _ hb0).mono ?_; rintro e v3 ⟨rfl, hg3⟩; replace hb0 := fresh_trans hb0 hg3; clear hg3)
          | (go_at_call 34; refine (LD.out _ hb0).mono ?_; rintro e v4 ⟨rfl, hg4⟩; replace hb0 := fresh_trans hb0 hg4; clear hg4)
          | (go_at_call 31; refine (HV.out _).mono ?_; rintro e w9 ⟨rfl, hw⟩; subst hw))
        go_ret
        exact ⟨by simp, (S.out.trans (Same.of hb0 (fun k hk => Nat.lt_of_lt_of_le hk S.out.size))).below⟩
end Go.Proofs.Ytobfcdjahlhkgaa.Queue
