/- The walk of QuotaHolds. Conditions: each number is one of its kind. -/
import Derived.Test.YtjjcaplkmbigdaaQuotaRun
namespace Go.Proofs.Ytjjcaplkmbigdaa.Quota
open Go.ChangeShapes Go.WideShapes Go.ChangeAt Go.RowKit Mem
open Fix (I64)
set_option linter.unusedVariables false
set_option linter.unusedSimpArgs false
set_option maxRecDepth 100000

def HoldI (w1 : World) (b n : Nat) (D q : Int) (left : Nat) (t : Value) (wr : World) : Prop := ∃ (k : Nat) (d : Bd) (began : Int), k ≤ 200 ∧ left = 200 - k ∧ t = .int .i64 k ∧ Run w1 b n D q k d wr ∧ bal d = d.q + began ∧ began ≤ 0

set_option maxHeartbeats 2000000 in
theorem holdsLaw (ps t0 t1 t2 : Int) (v : Option Addr) (len cap : Nat) (w : World) (p0 : 0 ≤ ps) (p1 : ps < 256) (h0 : 0 ≤ t0) (h1 : t0 < 4294967296) (h2 : 0 ≤ t1) (h3 : t1 < 4294967296) (h4 : 0 ≤ t2) (h5 : t2 < 4294967296) (hlen : len ≤ 9223372036854775807) (hC : Comes v len w) :
    Calls Try.prog 4 #[.int .u8 ps, .agg #[.int .u32 t0, .int .u32 t1, .int .u32 t2], .slice v len cap] w (Yes w) := by
  have ST := Lib.hid (fun w1 => sets w1 w1 ps t0 t1 (Below.refl _ w1) p0 p1 h0 h1 h2 h3)
  obtain ⟨m, hm⟩ : ∃ m : Nat, ps % 8 = (m : Int) := ⟨(ps % 8).toNat, by omega⟩
  have hm8 : m < 8 := by omega
  have hpo : psOf ps = 1 + m := by unfold psOf; omega
  obtain ⟨D, hD⟩ : ∃ D : Nat, t2 % 1000000001 = (D : Int) := ⟨(t2 % 1000000001).toNat, by omega⟩
  have hD9 : (D : Int) ≤ 1000000000 := by omega
  obtain ⟨X, hX⟩ : ∃ X : Int, (D : Int) * (1 + (m : Int)) = X := ⟨_, rfl⟩
  have hX0 : 0 ≤ X := by rw [← hX]; exact Int.mul_nonneg (by omega) (by omega)
  have hX1 : X ≤ 8000000000 := by
    rw [← hX]
    have : (D : Int) * (1 + (m : Int)) ≤ 1000000000 * (1 + (m : Int)) := Int.mul_le_mul_of_nonneg_right hD9 (by omega)
    omega
  have RS := Lib.hid (fun (w1 w2 : World) b hH => Run.start (w1 := w1) (w := w2) (b := b) (n := psOf ps) (D := D) h0 h1 h2 h3 (by omega) (by omega) hH)
  have SB := Lib.hid (start_bal (n := psOf ps) h0 h1 h2 h3)
  unfold IsSet at ST
  generalize setS (newS (psOf ps)) (1 + t0) (1 + t1) = dd at *
  have hgA := alloc1 w (.cells #[.int .u32 t0, .int .u32 t1, .int .u32 t2] 50)
  have hA := heap_alloc_new w (.cells #[.int .u32 t0, .int .u32 t1, .int .u32 t2] 50)
  have HC := Lib.hid (hC.fresh hgA)
  clear hC
  obtain ⟨a0, a1, a2, az⟩ := three hA
  go_enter Try.func4, Try.ntmps4
  go_wp2_with fail
  generalize w.alloc (.cells #[.int .u32 t0, .int .u32 t1, .int .u32 t2] 50) = W at *
  go_at_call 10; refine (awake _).mono ?_; rintro e w1 ⟨rfl, hg1⟩
  have hA1 := (hg1.block _ (lt_of hA)).trans hA
  have hg2 : Below w.heap.size w w1 := hgA.trans (hg1.mono hgA.size)
  replace HC := Lib.hid (HC.out.fresh hg1)
  clear hA hg1 hgA a0 a1 a2 az
  have hgB := alloc1 w1 (.cells #[.int .u32 t0, .int .u32 t1] 52)
  have hA2 := box_new (o' := .cells #[.int .u32 t0, .int .u32 t1] 52) hA1
  have hB2 := heap_alloc_new w1 (.cells #[.int .u32 t0, .int .u32 t1] 52)
  obtain ⟨a0, a1, a2, az⟩ := three hA1
  obtain ⟨x0, x1, x2, xz⟩ := three hA2
  obtain ⟨y0, y1, yz⟩ := two hB2
  go_upto_region 3 with fail
  replace HC := Lib.hid (HC.out.fresh hgB)
  replace hg2 := hg2.trans (hgB.mono hg2.size)
  clear a0 a1 a2 az hA1 hgB
  generalize w1.alloc (.cells #[.int .u32 t0, .int .u32 t1] 52) = W1 at *
  go_wp2_with fail
  go_at_call 24; refine (ST.out _).mono ?_; rintro e w2 ⟨b, rfl, hh2, hg3⟩
  have hA3 := (hg3.block _ (lt_of hA2)).trans hA2
  have hB3 := (hg3.block _ (lt_of hB2)).trans hB2
  have hR := RS.out _ _ _ hh2
  have I0 : HoldI W1 b (psOf ps) D (1 + t0) 200 (.int .i64 0) w2 := ⟨0, dd, 0, by omega, rfl, rfl, hR, SB.out, by omega⟩
  replace I0 := Lib.hid I0
  clear x0 x1 x2 xz y0 y1 yz hh2 hR
  obtain ⟨x0, x1, x2, xz⟩ := three hA3
  obtain ⟨y0, y1, yz⟩ := two hB3
  go_wp2_with fail
  rw [hD, hm]
  clear hD hm
  go_loopg [12] 200 (fun left t wr => HoldI W1 b (psOf ps) D (1 + t0) left t wr)
  case atStart => exact I0.out
  case round =>
    clear I0 x0 x1 x2 xz y0 y1 yz hA3 hB3 hg3 ST RS SB
    obtain ⟨k, d, began, hk, rfl, rfl, hR, hb, hb0⟩ := hrel
    have hbw := hR.held.below
    by_cases hlt : k < len ∧ k < 200
    · obtain ⟨l1, l2⟩ := hlt
      have q1 : (k : Int) < len := by omega
      have q2 : (k : Int) < 200 := by omega
      obtain ⟨kb, off, rfl, hkb, e0, e1, e2, ⟨z0, z1, z2, z3⟩, c0, c1, c2⟩ := (HC.out.fresh hbw) k l1
      have sm := hR.small (by omega) (by omega)
      have FIN : Hid (∀ d' w' began', Run W1 b (psOf ps) D (1 + t0) (k + 1) d' w' → bal d' = d'.q + began' → began' ≤ 0 → HoldI W1 b (psOf ps) D (1 + t0) (200 - (k + 1)) (.int .i64 ((k : Int) + 1)) w' ∧ d'.sp ≤ 1 + t0 + X ∧ Calls Try.prog 26 #[.pointer (some ⟨b, 0, none⟩)] w' (Still (.int .i64 d'.sp) w')) := fun d' w' began' hR' hb' h0' => by
        refine ⟨⟨k + 1, d', began', by omega, by omega, by go_num, hR', hb', h0'⟩, ?_, spent w' b _ d' hR'.held.band⟩
        have := sp_most hR'.inv hb' h0'
        rw [hR'.q, hR'.len, hpo, Int.mul_comm, show ((1 + m : Nat) : Int) = 1 + (m : Int) by omega, hX] at this
        exact this
      by_cases k2 : e0 = 2
      · subst k2
        have RF := Lib.hid (hR.held.ref (by rw [hR.len, hpo]; omega))
        have GO : Hid (∀ w', Held W1 (· < W1.heap.size) b (refS d) w' → Run W1 b (psOf ps) D (1 + t0) (k + 1) (refS d) w' ∧ bal (refS d) = (refS d).q + tot (refS d).loc ∧ tot (refS d).loc ≤ 0) := fun w' hH => ⟨(hR.fill hH).more, bal_ref d, tot_min d.loc⟩
        clear hR hb hbw
        generalize refS d = d' at *
        go_wp2_with fail
        go_at_call 21; refine RF.out.mono ?_; rintro e w3 ⟨rfl, hH3, _⟩
        obtain ⟨g1, g2, g3⟩ := GO.out _ hH3
        obtain ⟨f1, f2, f3⟩ := FIN.out _ _ _ g1 g2 g3
        have f4 := g1.inv.sp0
        have F1 := Lib.hid f1
        have F3 := Lib.hid f3
        clear FIN GO RF g1 g2 g3 hH3 f1 f3 c0 c1 c2
        generalize d'.sp = sp at *
        go_wp2_with fail
        go_at_call 26; refine F3.out.mono ?_; rintro e w4 ⟨rfl, rfl⟩
        go_wp2_with fail
        go_roundg (200 - (k + 1))
        case measure => omega
        case rel => exact F1.out
      · have k3 : (e0 == 2) = false := by simpa using k2
        have dn : e2 % ((D : Int) + 1) < D + 1 := Int.emod_lt_of_pos _ (by omega)
        have dm : 0 ≤ e2 % ((D : Int) + 1) := Int.emod_nonneg _ (by omega)
        have SV := Lib.hid (serves wr b (· < W1.heap.size) d e0 e1 e2 ps D hR.held.band hR.held.lt hR.inv hR.lim p0 p1 z0 z1 z2 z3 (by omega) (by omega) (by omega) (by omega))
        have GO : Hid (∀ e w', Did (.tuple #[]) (serveS d e0 (e1 % psOf ps) (e2 % (D + 1))) b (· < W1.heap.size) wr e w' → e = .returned (.tuple #[]) ∧ Run W1 b (psOf ps) D (1 + t0) (k + 1) (serveS d e0 (e1 % psOf ps) (e2 % (D + 1))) w' ∧ bal (serveS d e0 (e1 % psOf ps) (e2 % (D + 1))) = (serveS d e0 (e1 % psOf ps) (e2 % (D + 1))).q + began) := fun e w' h => by
          obtain ⟨r1, r2⟩ := hR.did h
          exact ⟨r1, hR.next dm (by omega) r2, by rw [bal_serve hR.lim, q_serve]; exact hb⟩
        clear hR hb hbw dn dm
        generalize serveS d e0 (e1 % psOf ps) (e2 % (D + 1)) = d' at *
        go_wp2_with fail
        go_at_call 25; refine SV.out.mono ?_; intro e w3 h3
        obtain ⟨rfl, g1, g2⟩ := GO.out _ _ h3
        obtain ⟨f1, f2, f3⟩ := FIN.out _ _ _ g1 g2 hb0
        have f4 := g1.inv.sp0
        have F1 := Lib.hid f1
        have F3 := Lib.hid f3
        clear FIN GO SV g1 g2 h3 f1 f3 c0 c1 c2
        generalize d'.sp = sp at *
        go_wp2_with fail
        go_at_call 26; refine F3.out.mono ?_; rintro e w4 ⟨rfl, rfl⟩
        go_wp2_with fail
        go_roundg (200 - (k + 1))
        case measure => omega
        case rel => exact F1.out
    · have hd : ¬ (k : Int) < len ∨ ((k : Int) < len ∧ ¬ (k : Int) < 200) := by omega
      have hgF := Lib.hid (hg2.trans (hbw.mono hg2.size))
      clear hR hb hbw hlt
      rcases hd with q1 | ⟨q1, q2⟩
      all_goals
        go_wp2_with fail
        go_ret
        exact ⟨rfl, hgF.out⟩
end Go.Proofs.Ytjjcaplkmbigdaa.Quota
