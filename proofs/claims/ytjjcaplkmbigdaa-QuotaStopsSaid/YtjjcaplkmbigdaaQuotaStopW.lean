/- The walk of QuotaStops. Conditions: each number is one of its kind. -/
import Derived.Test.YtjjcaplkmbigdaaQuotaRun
namespace Go.Proofs.Ytjjcaplkmbigdaa.Quota
open Go.ChangeShapes Go.WideShapes Go.ChangeAt Go.RowKit Mem
open Fix (I64)
set_option linter.unusedVariables false
set_option linter.unusedSimpArgs false
set_option maxRecDepth 100000

def StopI (w1 : World) (b n : Nat) (q : Int) (left : Nat) (t : Value) (wr : World) : Prop := ∃ (k : Nat) (d : Bd), k ≤ 200 ∧ left = 200 - k ∧ t = .int .i64 k ∧ Run w1 b n 1000000 q k d wr
/-- What Ensure leaves. -/
theorem ens_stop {M S : Int} {d : Bd} (hi : Inv M S d) (hl : lim d = true) {j : Nat} (hj : j < d.loc.length) :
    ensB d j = decide (0 < (ensS d j).at j) ∧ (0 < d.at j → ensS d j = d) ∧ (¬ 0 < (ensS d j).at j → (ensS d j).p = 0) := by
  have hh := here_nat hj
  refine ⟨by simp [ensB, hh, hl], fun h => ?_, fun h => ?_⟩
  · simp [ensS, hh, hl]
    intro h1; omega
  · have hs := hi.s1 (by simpa [Quota.lim] using hl)
    by_cases ha : d.at j ≤ 0
    · have e : ensS d j = drawS d j := by simp [ensS, hh, hl, ha]
      rw [e, drawS_at hj] at h
      rw [e]
      simp only [drawS]
      omega
    · have e : ensS d j = d := by simp [ensS, ha]
      rw [e] at h
      omega

set_option maxHeartbeats 2000000 in
theorem stopsLaw (ps t0 t1 : Int) (v : Option Addr) (len cap : Nat) (w : World) (p0 : 0 ≤ ps) (p1 : ps < 256) (h0 : 0 ≤ t0) (h1 : t0 < 4294967296) (h2 : 0 ≤ t1) (h3 : t1 < 4294967296) (hlen : len ≤ 9223372036854775807) (hC : Comes v len w) :
    Calls Try.prog 6 #[.int .u8 ps, .agg #[.int .u32 t0, .int .u32 t1], .slice v len cap] w (Yes w) := by
  have ST := Lib.hid (fun w1 => sets w1 w1 ps t0 t1 (Below.refl _ w1) p0 p1 h0 h1 h2 h3)
  obtain ⟨m, hm⟩ : ∃ m : Nat, ps % 8 = (m : Int) := ⟨(ps % 8).toNat, by omega⟩
  have hm8 : m < 8 := by omega
  have hpo : psOf ps = 1 + m := by unfold psOf; omega
  have RS := Lib.hid (fun (w1 w2 : World) b hH => Run.start (w1 := w1) (w := w2) (b := b) (n := psOf ps) (D := 1000000) h0 h1 h2 h3 (by omega) (by omega) hH)
  have SB := Lib.hid (start_bal (n := psOf ps) h0 h1 h2 h3)
  unfold IsSet at ST
  generalize setS (newS (psOf ps)) (1 + t0) (1 + t1) = dd at *
  have hgA := alloc1 w (.cells #[.int .u32 t0, .int .u32 t1] 52)
  have hA := heap_alloc_new w (.cells #[.int .u32 t0, .int .u32 t1] 52)
  have HC := Lib.hid (hC.fresh hgA)
  clear hC
  go_enter Try.func6, Try.ntmps6
  go_wp2_with fail
  generalize w.alloc (.cells #[.int .u32 t0, .int .u32 t1] 52) = W at *
  go_at_call 10; refine (awake _).mono ?_; rintro e W1 ⟨rfl, hg1⟩
  have hA1 := (hg1.block _ (lt_of hA)).trans hA
  have hg2 : Below w.heap.size w W1 := hgA.trans (hg1.mono hgA.size)
  replace HC := Lib.hid (HC.out.fresh hg1)
  have hAl := lt_of hA1
  clear hA hg1 hgA
  generalize htb : w.heap.size = tb at *
  have HT := Lib.hid htb
  clear htb
  obtain ⟨a0, a1, az⟩ := two hA1
  go_wp2_with fail
  go_at_call 24; refine (ST.out _).mono ?_; rintro e w2 ⟨b, rfl, hh2, hg3⟩
  have hA3 := (hg3.block _ hAl).trans hA1
  have hR := RS.out _ _ _ hh2
  clear a0 a1 az hh2
  have I0 : StopI W1 b (psOf ps) (1 + t0) 200 (.int .i64 0) w2 := ⟨0, dd, by omega, rfl, rfl, hR⟩
  replace I0 := Lib.hid I0
  clear hR ST RS SB
  go_wp2_with fail
  go_loopg [9] 200 (fun left t wr => StopI W1 b (psOf ps) (1 + t0) left t wr)
  case atStart => exact I0.out
  case round =>
    clear I0 hA3 hg3
    obtain ⟨k, d, hk, rfl, rfl, hR⟩ := hrel
    have hbw := hR.held.below
    by_cases hlt : k < len ∧ k < 150
    · obtain ⟨l1, l2⟩ := hlt
      have q1 : (k : Int) < len := by omega
      have q2 : (k : Int) < 150 := by omega
      obtain ⟨kb, off, rfl, hkb0, e0, e1, e2, ⟨z0, z1, z2, z3⟩, c0', c1', c2'⟩ := HC.out k l1
      have c0 := (hbw.cell hkb0).trans c0'
      have c1 := (hbw.cell hkb0).trans c1'
      have c2 := (hbw.cell hkb0).trans c2'
      clear c0' c1' c2'
      have sm := hR.small (by omega) (by omega)
      have hbw0 := hbw
      have hkb' : kb < W1.heap.size := hkb0
      obtain ⟨j, hj⟩ : ∃ j : Nat, e1 % (1 + (m : Int)) = (j : Int) := ⟨(e1 % (1 + (m : Int))).toNat, by have := Int.emod_nonneg e1 (show (1 + (m : Int)) ≠ 0 by omega); omega⟩
      have hj1 : (j : Int) < 1 + (m : Int) := by rw [← hj]; exact Int.emod_lt_of_pos _ (by omega)
      have FIN : Hid (∀ d' w', Run W1 b (psOf ps) 1000000 (1 + t0) (k + 1) d' w' →
          (∀ w'', Held W1 (· < W1.heap.size) b (ensS d' j) w'' → StopI W1 b (psOf ps) (1 + t0) (200 - (k + 1)) (.int .i64 ((k : Int) + 1)) w'') ∧
          (Calls Try.prog 29 #[.pointer (some ⟨b, 0, none⟩), .int .i64 (j : Int)] w' (Still (.int .i64 (d'.at j)) w')) ∧
          (Calls Try.prog 28 #[.pointer (some ⟨b, 0, none⟩)] w' (Still (.int .i64 d'.p) w')) ∧
          (Calls Try.prog 15 #[.pointer (some ⟨b, 0, none⟩), .int .i64 (j : Int)] w' (Res (.bool (decide (0 < (ensS d' j).at j))) W1 (· < W1.heap.size) b (ensS d' j) w')) ∧
          (∀ w'', Held W1 (· < W1.heap.size) b (ensS d' j) w'' → (Calls Try.prog 29 #[.pointer (some ⟨b, 0, none⟩), .int .i64 (j : Int)] w'' (Still (.int .i64 ((ensS d' j).at j)) w'')) ∧ (Calls Try.prog 28 #[.pointer (some ⟨b, 0, none⟩)] w'' (Still (.int .i64 (ensS d' j).p) w''))) ∧
          ((0 < d'.at j → (ensS d' j).at j = d'.at j ∧ (ensS d' j).p = d'.p) ∧ (¬ 0 < (ensS d' j).at j → (ensS d' j).p = 0))) := fun d' w' hR' => by
        have hjl : j < d'.loc.length := by rw [hR'.len, hpo]; omega
        obtain ⟨s1, s2, s3⟩ := ens_stop hR'.inv hR'.lim hjl
        have L1 := locals w' b _ d' (j : Int) hR'.held.band
        rw [show d'.local (j : Int) = d'.at j by simp [Bd.local, here_nat hjl]] at L1
        have E1 := hR'.held.ens (j : Int) hR'.inv (by omega)
        rw [s1] at E1
        refine ⟨fun w'' hH => ⟨k + 1, _, by omega, by omega, by go_num, hR'.ens hH⟩, L1, pool w' b _ d' hR'.held.band, E1, fun w'' hH => ⟨?_, pool w'' b _ _ hH.band⟩, ⟨fun h => by rw [s2 h]; exact ⟨rfl, rfl⟩, s3⟩⟩
        have L2 := locals w'' b _ (ensS d' j) (j : Int) hH.band
        rwa [show (ensS d' j).local (j : Int) = (ensS d' j).at j by simp [Bd.local, here_nat (show j < (ensS d' j).loc.length by rw [len_ens]; exact hjl)]] at L2
      have m1 : ¬ (1 + (m : Int)) = 0 := by omega
      by_cases k2 : e0 = 2
      · subst k2
        have RF := Lib.hid (hR.held.ref (by rw [hR.len, hpo]; omega))
        have GO : Hid (∀ w', Held W1 (· < W1.heap.size) b (refS d) w' → Run W1 b (psOf ps) 1000000 (1 + t0) (k + 1) (refS d) w') := fun w' hH => (hR.fill hH).more
        clear hR hbw
        generalize refS d = d' at *
        go_wp2_with fail
        go_at_call 21; refine RF.out.mono ?_; rintro e w3 ⟨rfl, hH3, hs3⟩
        have g1 := GO.out _ hH3
        have hh3 := g1.held.below
        obtain ⟨f1, f2, f3, f4, f5, f6, f7⟩ := FIN.out _ _ g1
        have F1 := Lib.hid f1
        have F2 := Lib.hid f2
        have F3 := Lib.hid f3
        have F4 := Lib.hid f4
        have F5 := Lib.hid f5
        have cc := (World.cell?_of_block (a := ⟨kb, off + k * 3 + 1, none⟩) ((hh3.block kb hkb').trans (hbw0.block kb hkb').symm)).trans c1
        have f8 := g1.inv.p0
        clear FIN GO RF g1 hH3 hs3 hh3 f1 f2 f3 f4 f5 c0 c1 c2
        generalize ensS d' j = d2 at *
        generalize d2.at j = y at *
        generalize d2.p = P2 at *
        generalize d'.at j = x at *
        generalize d'.p = P1 at *
        go_wp2_with fail
        go_at_call 29; refine F2.out.mono ?_; rintro e w4 ⟨rfl, rfl⟩
        go_wp2_with fail
        go_at_call 28; refine F3.out.mono ?_; rintro e w4 ⟨rfl, rfl⟩
        go_wp2_with fail
        go_at_call 15; refine F4.out.mono ?_; rintro e w4 ⟨rfl, h4, _⟩
        obtain ⟨v1, v2⟩ := F5.out _ h4
        have V1 := Lib.hid v1
        have V2 := Lib.hid v2
        have V3 := Lib.hid (F1.out _ h4)
        clear v1 v2 h4 F1 F2 F3 F4 F5
        by_cases x1 : 0 < x
        · obtain ⟨rfl, rfl⟩ := f6 x1
          have x2 : decide (0 < y) = true := by simpa using x1
          clear f6 f7
          go_wp2_with (first
            | (go_at_call 29; refine V1.out.mono ?_; rintro e w5 ⟨rfl, rfl⟩)
            | (go_at_call 28; refine V2.out.mono ?_; rintro e w5 ⟨rfl, rfl⟩))
          go_roundg (200 - (k + 1))
          case measure => omega
          case rel => exact V3.out
        · have x2 : decide (0 < x) = false := by simpa using x1
          by_cases y1 : 0 < y
          · have y2 : decide (0 < y) = true := by simpa using y1
            clear f6 f7
            go_wp2_with (first
              | (go_at_call 29; refine V1.out.mono ?_; rintro e w5 ⟨rfl, rfl⟩)
              | (go_at_call 28; refine V2.out.mono ?_; rintro e w5 ⟨rfl, rfl⟩))
            go_roundg (200 - (k + 1))
            case measure => omega
            case rel => exact V3.out
          · have y2 : decide (0 < y) = false := by simpa using y1
            obtain rfl := f7 (by omega)
            clear f6 f7
            go_wp2_with (first
              | (go_at_call 29; refine V1.out.mono ?_; rintro e w5 ⟨rfl, rfl⟩)
              | (go_at_call 28; refine V2.out.mono ?_; rintro e w5 ⟨rfl, rfl⟩))
            go_roundg (200 - (k + 1))
            case measure => omega
            case rel => exact V3.out
      · have k3 : (e0 == 2) = false := by simpa using k2
        have dn : e2 % ((1000000 : Int) + 1) < 1000000 + 1 := Int.emod_lt_of_pos _ (by omega)
        have dm : 0 ≤ e2 % ((1000000 : Int) + 1) := Int.emod_nonneg _ (by omega)
        have SV := Lib.hid (serves wr b (· < W1.heap.size) d e0 e1 e2 ps 1000000 hR.held.band hR.held.lt hR.inv hR.lim p0 p1 z0 z1 z2 z3 (by omega) (by omega) (by omega) (by omega))
        have GO : Hid (∀ e w', Did (.tuple #[]) (serveS d e0 (e1 % psOf ps) (e2 % (1000000 + 1))) b (· < W1.heap.size) wr e w' → e = .returned (.tuple #[]) ∧ Run W1 b (psOf ps) 1000000 (1 + t0) (k + 1) (serveS d e0 (e1 % psOf ps) (e2 % (1000000 + 1))) w') := fun e w' h => by
          obtain ⟨r1, r2⟩ := hR.did h
          exact ⟨r1, hR.next dm (by omega) r2⟩
        clear hR hbw dn dm
        generalize serveS d e0 (e1 % psOf ps) (e2 % (1000000 + 1)) = d' at *
        go_wp2_with fail
        go_at_call 25; refine SV.out.mono ?_; intro e w3 h3
        obtain ⟨rfl, g1⟩ := GO.out _ _ h3
        have hh3 := g1.held.below
        obtain ⟨f1, f2, f3, f4, f5, f6, f7⟩ := FIN.out _ _ g1
        have F1 := Lib.hid f1
        have F2 := Lib.hid f2
        have F3 := Lib.hid f3
        have F4 := Lib.hid f4
        have F5 := Lib.hid f5
        have cc := (World.cell?_of_block (a := ⟨kb, off + k * 3 + 1, none⟩) ((hh3.block kb hkb').trans (hbw0.block kb hkb').symm)).trans c1
        have f8 := g1.inv.p0
        clear FIN GO SV g1 h3 hh3 f1 f2 f3 f4 f5 c0 c1 c2
        generalize ensS d' j = d2 at *
        generalize d2.at j = y at *
        generalize d2.p = P2 at *
        generalize d'.at j = x at *
        generalize d'.p = P1 at *
        go_wp2_with fail
        go_at_call 29; refine F2.out.mono ?_; rintro e w4 ⟨rfl, rfl⟩
        go_wp2_with fail
        go_at_call 28; refine F3.out.mono ?_; rintro e w4 ⟨rfl, rfl⟩
        go_wp2_with fail
        go_at_call 15; refine F4.out.mono ?_; rintro e w4 ⟨rfl, h4, _⟩
        obtain ⟨v1, v2⟩ := F5.out _ h4
        have V1 := Lib.hid v1
        have V2 := Lib.hid v2
        have V3 := Lib.hid (F1.out _ h4)
        clear v1 v2 h4 F1 F2 F3 F4 F5
        by_cases x1 : 0 < x
        · obtain ⟨rfl, rfl⟩ := f6 x1
          have x2 : decide (0 < y) = true := by simpa using x1
          clear f6 f7
          go_wp2_with (first
            | (go_at_call 29; refine V1.out.mono ?_; rintro e w5 ⟨rfl, rfl⟩)
            | (go_at_call 28; refine V2.out.mono ?_; rintro e w5 ⟨rfl, rfl⟩))
          go_roundg (200 - (k + 1))
          case measure => omega
          case rel => exact V3.out
        · have x2 : decide (0 < x) = false := by simpa using x1
          by_cases y1 : 0 < y
          · have y2 : decide (0 < y) = true := by simpa using y1
            clear f6 f7
            go_wp2_with (first
              | (go_at_call 29; refine V1.out.mono ?_; rintro e w5 ⟨rfl, rfl⟩)
              | (go_at_call 28; refine V2.out.mono ?_; rintro e w5 ⟨rfl, rfl⟩))
            go_roundg (200 - (k + 1))
            case measure => omega
            case rel => exact V3.out
          · have y2 : decide (0 < y) = false := by simpa using y1
            obtain rfl := f7 (by omega)
            clear f6 f7
            go_wp2_with (first
              | (go_at_call 29; refine V1.out.mono ?_; rintro e w5 ⟨rfl, rfl⟩)
              | (go_at_call 28; refine V2.out.mono ?_; rintro e w5 ⟨rfl, rfl⟩))
            go_roundg (200 - (k + 1))
            case measure => omega
            case rel => exact V3.out
    · have hd : ¬ (k : Int) < len ∨ ((k : Int) < len ∧ ¬ (k : Int) < 150) := by omega
      have hgF := Lib.hid (hg2.trans (hbw.mono (by have := hg2.size; omega)))
      clear hR hbw hlt
      rcases hd with q1 | ⟨q1, q2⟩
      all_goals
        go_wp2_with fail
        go_ret
        exact ⟨rfl, by rw [HT.out]; exact hgF.out⟩
end Go.Proofs.Ytjjcaplkmbigdaa.Quota
