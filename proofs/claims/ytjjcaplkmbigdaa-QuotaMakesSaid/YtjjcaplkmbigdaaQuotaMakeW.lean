/- The walk of QuotaMakes. Conditions: each number is one of its kind. -/
import Derived.Test.YtjjcaplkmbigdaaQuotaRun
namespace Go.Proofs.Ytjjcaplkmbigdaa.Quota
open Go.ChangeShapes Go.WideShapes Go.ChangeAt Go.RowKit Mem
open Fix (I64)
set_option linter.unusedVariables false
set_option linter.unusedSimpArgs false
set_option maxRecDepth 100000

theorem tot_le_pos (l : List Int) : tot l ≤ pos l := by
  induction l with
  | nil => simp [tot, pos]
  | cons x l ih => simp only [tot, pos]; omega
def MakeI (w1 : World) (b n : Nat) (q : Int) (left : Nat) (s t : Value) (wr : World) : Prop := ∃ (k : Nat) (d : Bd) (began : Int), k ≤ 200 ∧ left = 200 - k ∧ s = .int .i64 began ∧ t = .int .i64 k ∧ Run w1 b n 1000000 q k d wr ∧ bal d = d.q + began ∧ began ≤ 0 ∧ -8000000 ≤ began
theorem ref_low {w1 w : World} {b n k : Nat} {q : Int} {d : Bd} (h : Run w1 b n 1000000 q k d w) (hn : n ≤ 8) : -8000000 ≤ tot d.loc := by
  have h1 := tot_ge h.inv.lo
  rw [h.len] at h1
  omega

set_option maxHeartbeats 2000000 in
theorem makesLaw (ps t0 t1 : Int) (v : Option Addr) (len cap : Nat) (w : World) (p0 : 0 ≤ ps) (p1 : ps < 256) (h0 : 0 ≤ t0) (h1 : t0 < 4294967296) (h2 : 0 ≤ t1) (h3 : t1 < 4294967296) (hlen : len ≤ 9223372036854775807) (hC : Comes v len w) :
    Calls Try.prog 5 #[.int .u8 ps, .agg #[.int .u32 t0, .int .u32 t1], .slice v len cap] w (Yes w) := by
  have ST := Lib.hid (fun w1 => sets w1 w1 ps t0 t1 (Below.refl _ w1) p0 p1 h0 h1 h2 h3)
  obtain ⟨m, hm⟩ : ∃ m : Nat, ps % 8 = (m : Int) := ⟨(ps % 8).toNat, by omega⟩
  have hm8 : m < 8 := by omega
  have hpo : psOf ps = 1 + m := by unfold psOf; omega
  have RS := Lib.hid (fun (w1 w2 : World) b hH => Run.start (w1 := w1) (w := w2) (b := b) (n := psOf ps) (D := 1000000) h0 h1 h2 h3 (by omega) (by omega) hH)
  have SB := Lib.hid (start_bal (n := psOf ps) h0 h1 h2 h3)
  unfold IsSet at ST
  generalize setS (newS (psOf ps)) (1 + t0) (1 + t1) = dd at *
  have hgA := alloc1 w (.cells #[.int .u32 t0, .int .u32 t1] 52)
  have hA := heap_alloc_new w (.cells #[.int .u32 t0, .int .u32 t1] 52)
  have HC := Lib.hid (hC.fresh hgA)
  clear hC
  go_enter Try.func5, Try.ntmps5
  go_wp2_with fail
  generalize w.alloc (.cells #[.int .u32 t0, .int .u32 t1] 52) = W at *
  go_at_call 10; refine (awake _).mono ?_; rintro e W1 ⟨rfl, hg1⟩
  have hA1 := (hg1.block _ (lt_of hA)).trans hA
  have hg2 : Below w.heap.size w W1 := hgA.trans (hg1.mono hgA.size)
  replace HC := Lib.hid (HC.out.fresh hg1)
  have hAl := lt_of hA1
  clear hA hg1 hgA
  generalize htb : w.heap.size = tb at *
  have HT := Lib.hid htb
  clear htb
  obtain ⟨a0, a1, az⟩ := two hA1
  go_wp2_with fail
  go_at_call 24; refine (ST.out _).mono ?_; rintro e w2 ⟨b, rfl, hh2, hg3⟩
  have hA3 := (hg3.block _ hAl).trans hA1
  have hR := RS.out _ _ _ hh2
  clear a0 a1 az hh2
  have I0 : MakeI W1 b (psOf ps) (1 + t0) 200 (.int .i64 0) (.int .i64 0) w2 := ⟨0, dd, 0, by omega, rfl, rfl, rfl, hR, SB.out, by omega, by omega⟩
  replace I0 := Lib.hid I0
  clear hR ST RS SB
  go_wp2_with fail
  go_loopg [9, 10] 200 (fun left s t wr => MakeI W1 b (psOf ps) (1 + t0) left s t wr)
  case atStart => exact I0.out
  case round =>
    clear I0 hA3 hg3
    obtain ⟨k, d, began, hk, rfl, rfl, rfl, hR, hb, hb0, hb1⟩ := hrel
    have hbw := hR.held.below
    by_cases hlt : k < len ∧ k < 200
    · obtain ⟨l1, l2⟩ := hlt
      have q1 : (k : Int) < len := by omega
      have q2 : (k : Int) < 200 := by omega
      obtain ⟨kb, off, rfl, hkb, e0, e1, e2, ⟨z0, z1, z2, z3⟩, c0, c1, c2⟩ := (HC.out.fresh hbw) k l1
      have sm := hR.small (by omega) (by omega)
      have FIN : Hid (∀ d' w' began', Run W1 b (psOf ps) 1000000 (1 + t0) (k + 1) d' w' → bal d' = d'.q + began' → began' ≤ 0 → -8000000 ≤ began' →
          (∀ nn, MakeI W1 b (psOf ps) (1 + t0) (200 - (k + 1)) (.int .i64 began') (.int .i64 ((k : Int) + 1)) (w'.drewN nn)) ∧ (0 ≤ d'.p ∧ d'.p ≤ 1 + t0 ∧ -8000000 ≤ tot d'.loc ∧ tot d'.loc ≤ 1 + t0) ∧
          (∀ nn, Calls Try.prog 26 #[.pointer (some ⟨b, 0, none⟩)] (w'.drewN nn) (fun e w'' => e = .returned (.int .i64 (1 + t0 - d'.p + began' - tot d'.loc)) ∧ w'' = w'.drewN nn)) ∧
          (∀ nn, Calls Try.prog 28 #[.pointer (some ⟨b, 0, none⟩)] (w'.drewN nn) (fun e w'' => e = .returned (.int .i64 d'.p) ∧ w'' = w'.drewN nn)) ∧
          (∀ nn, Calls Try.prog 27 #[.pointer (some ⟨b, 0, none⟩), .int .u8 ps] (w'.drewN nn) (fun e w'' => e = .returned (.int .i64 (tot d'.loc)) ∧ w'' = w'.drewN nn)) ∧
          (w'.cell? ⟨tb, 0, none⟩ = some (.int .u32 t0))) := fun d' w' began' hR' hb' h0' h1' => by
        have HF := fun nn => hR'.fresh (drawn w' nn)
        have g1 := hR'.inv.pp
        have g2 := pos_nonneg d'.loc
        have g3 := tot_le_pos d'.loc
        have g4 := ref_low hR' (by omega)
        have g5 := hR'.inv.p0
        rw [hR'.q] at g1
        have g6 : d'.sp = 1 + t0 - d'.p + began' - tot d'.loc := by rw [hR'.q] at hb'; unfold bal at hb'; omega
        refine ⟨fun nn => ⟨k + 1, d', began', by omega, by omega, rfl, by go_num, HF nn, hb', h0', h1'⟩, ⟨by omega, by omega, by omega, by omega⟩, fun nn => ?_, fun nn => ?_, fun nn => ?_, ?_⟩
        · have := spent _ b _ d' (HF nn).held.band
          rw [g6] at this
          exact this.mono fun e w'' ⟨r1, r2⟩ => ⟨r1, r2.symm⟩
        · exact (pool _ b _ d' (HF nn).held.band).mono fun e w'' ⟨r1, r2⟩ => ⟨r1, r2.symm⟩
        · exact (local_as _ b _ d' ps (HF nn).held.band hR'.len p0 p1 hR'.inv (by omega)).mono fun e w'' ⟨r1, r2⟩ => ⟨r1, r2.symm⟩
        · have := (hR'.held.below.block tb hAl).trans hA1
          exact (two this).1
      by_cases k2 : e0 = 2
      · subst k2
        have RF := Lib.hid (hR.held.ref (by rw [hR.len, hpo]; omega))
        have GO : Hid (∀ w', Held W1 (· < W1.heap.size) b (refS d) w' → Run W1 b (psOf ps) 1000000 (1 + t0) (k + 1) (refS d) w' ∧ bal (refS d) = (refS d).q + tot (refS d).loc ∧ tot (refS d).loc ≤ 0 ∧ -8000000 ≤ tot (refS d).loc) := fun w' hH => ⟨(hR.fill hH).more, bal_ref d, tot_min d.loc, ref_low (hR.fill hH) (by omega)⟩
        clear hR hb hbw
        generalize refS d = d' at *
        go_wp2_with fail
        go_at_call 21; refine RF.out.mono ?_; rintro e w3 ⟨rfl, hH3, _⟩
        obtain ⟨g1, g2, g3, g4⟩ := GO.out _ hH3
        obtain ⟨f1, ⟨f2, f3, f4, f5⟩, f6, f7, f8, f9⟩ := FIN.out _ _ _ g1 g2 g3 g4
        have F1 := Lib.hid f1
        have F6 := Lib.hid f6
        have F7 := Lib.hid f7
        have F8 := Lib.hid f8
        have L8 := Lib.hid (f8 0)
        clear FIN GO RF g1 g2 g3 g4 hH3 f1 f6 f7 f8 c0 c1 c2
        generalize tot d'.loc = L at *
        generalize d'.p = P at *
        have n1 : decide (P < 0) = false := by simpa using f2
        have n2 : decide (1 + t0 < P) = false := by simpa using f3
        go_wp2_with fail
        go_at_call 27; refine L8.out.mono ?_; rintro e w4 ⟨rfl, rfl⟩
        rw [show w3.drewN 0 = w3 from rfl]
        go_wp2_with fail
        go_quiet (first
          | (go_at_call 28; exact Calls.quiet_of_same (F7.out _))
          | (go_at_call 26; exact Calls.quiet_of_same (F6.out _))
          | (go_at_call 27; exact Calls.quiet_of_same (F8.out _)))
        go_wp2_with fail
        go_roundg (200 - (k + 1))
        case measure => omega
        case rel => exact F1.out _
      · have k3 : (e0 == 2) = false := by simpa using k2
        have dn : e2 % ((1000000 : Int) + 1) < 1000000 + 1 := Int.emod_lt_of_pos _ (by omega)
        have dm : 0 ≤ e2 % ((1000000 : Int) + 1) := Int.emod_nonneg _ (by omega)
        have SV := Lib.hid (serves wr b (· < W1.heap.size) d e0 e1 e2 ps 1000000 hR.held.band hR.held.lt hR.inv hR.lim p0 p1 z0 z1 z2 z3 (by omega) (by omega) (by omega) (by omega))
        have GO : Hid (∀ e w', Did (.tuple #[]) (serveS d e0 (e1 % psOf ps) (e2 % (1000000 + 1))) b (· < W1.heap.size) wr e w' → e = .returned (.tuple #[]) ∧ Run W1 b (psOf ps) 1000000 (1 + t0) (k + 1) (serveS d e0 (e1 % psOf ps) (e2 % (1000000 + 1))) w' ∧ bal (serveS d e0 (e1 % psOf ps) (e2 % (1000000 + 1))) = (serveS d e0 (e1 % psOf ps) (e2 % (1000000 + 1))).q + began) := fun e w' h => by
          obtain ⟨r1, r2⟩ := hR.did h
          exact ⟨r1, hR.next dm (by omega) r2, by rw [bal_serve hR.lim, q_serve]; exact hb⟩
        clear hR hb hbw dn dm
        generalize serveS d e0 (e1 % psOf ps) (e2 % (1000000 + 1)) = d' at *
        go_wp2_with fail
        go_at_call 25; refine SV.out.mono ?_; intro e w3 h3
        obtain ⟨rfl, g1, g2⟩ := GO.out _ _ h3
        obtain ⟨f1, ⟨f2, f3, f4, f5⟩, f6, f7, f8, f9⟩ := FIN.out _ _ _ g1 g2 hb0 hb1
        have F1 := Lib.hid f1
        have F6 := Lib.hid f6
        have F7 := Lib.hid f7
        have F8 := Lib.hid f8
        clear FIN GO SV g1 g2 h3 f1 f6 f7 f8 c0 c1 c2
        generalize tot d'.loc = L at *
        generalize d'.p = P at *
        have n1 : decide (P < 0) = false := by simpa using f2
        have n2 : decide (1 + t0 < P) = false := by simpa using f3
        go_wp2_with fail
        go_quiet (first
          | (go_at_call 28; exact Calls.quiet_of_same (F7.out _))
          | (go_at_call 26; exact Calls.quiet_of_same (F6.out _))
          | (go_at_call 27; exact Calls.quiet_of_same (F8.out _)))
        go_wp2_with fail
        go_roundg (200 - (k + 1))
        case measure => omega
        case rel => exact F1.out _
    · have hd : ¬ (k : Int) < len ∨ ((k : Int) < len ∧ ¬ (k : Int) < 200) := by omega
      have hgF := Lib.hid (hg2.trans (hbw.mono (by have := hg2.size; omega)))
      clear hR hb hbw hlt
      rcases hd with q1 | ⟨q1, q2⟩
      all_goals
        go_wp2_with fail
        go_ret
        exact ⟨rfl, by rw [HT.out]; exact hgF.out⟩
end Go.Proofs.Ytjjcaplkmbigdaa.Quota
