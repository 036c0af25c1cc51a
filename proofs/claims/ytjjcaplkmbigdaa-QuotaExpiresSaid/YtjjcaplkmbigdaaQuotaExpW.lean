/- The walk of QuotaExpires. Conditions: each number is one of its kind. -/
import Derived.Test.YtjjcaplkmbigdaaQuotaRun
import Derived.Laws.Cover1
namespace Go.Proofs.Ytjjcaplkmbigdaa.Quota
open Go.ChangeShapes Go.WideShapes Go.ChangeAt Go.RowKit Mem
open Fix (I64)
set_option linter.unusedVariables false
set_option linter.unusedSimpArgs false
set_option maxRecDepth 100000

def ExpA (w1 : World) (b n : Nat) (q : Int) (left : Nat) (t : Value) (wr : World) : Prop := ∃ (k : Nat) (d : Bd), k ≤ 200 ∧ left = 200 - k ∧ t = .int .i64 k ∧ Run w1 b n 1000000 q k d wr
def ExpB (W : World) (d : Bd) (n : Nat) (left : Nat) (v t : Value) (wr : World) : Prop := ∃ (k : Nat), k ≤ n ∧ left = n - k ∧ t = .int .i64 k ∧ wr.ownsRow W.heap.size 2 1 v k (cL (d.loc.take k)) ∧ Below W.heap.size W wr
def ExpC (W : World) (n : Nat) (left : Nat) (t : Value) (wr : World) : Prop := ∃ (k nn : Nat), k ≤ n ∧ left = n - k ∧ t = .int .i64 k ∧ Hid (wr = W.drewN nn)
theorem cL_take {d : Bd} {k : Nat} (hk : k < d.loc.length) : cL (d.loc.take (k + 1)) = cL (d.loc.take k) ++ [.int .i64 (d.at k)] := by
  rw [List.take_succ_eq_append_getElem hk]
  simp only [cL, List.map_append, List.map_cons, List.map_nil, Bd.at, List.getElem?_eq_getElem hk, Option.getD_some]
theorem ref_at (d : Bd) (k : Nat) : (refS d).at k = min (d.at k) 0 := by
  simp only [refS, Bd.at, List.getElem?_map]
  cases d.loc[k]? with
  | none => simp
  | some x => simp

set_option maxHeartbeats 2000000 in
theorem expiresLaw (ps t0 t1 : Int) (v : Option Addr) (len cap : Nat) (w : World) (p0 : 0 ≤ ps) (p1 : ps < 256) (h0 : 0 ≤ t0) (h1 : t0 < 4294967296) (h2 : 0 ≤ t1) (h3 : t1 < 4294967296) (hlen : len ≤ 9223372036854775807) (hC : Comes v len w) :
    Calls Try.prog 7 #[.int .u8 ps, .agg #[.int .u32 t0, .int .u32 t1], .slice v len cap] w (Yes w) := by
  have ST := Lib.hid (fun w1 => sets w1 w1 ps t0 t1 (Below.refl _ w1) p0 p1 h0 h1 h2 h3)
  obtain ⟨m, hm⟩ : ∃ m : Nat, ps % 8 = (m : Int) := ⟨(ps % 8).toNat, by omega⟩
  have hm8 : m < 8 := by omega
  have hpo : psOf ps = 1 + m := by unfold psOf; omega
  have RS := Lib.hid (fun (w1 w2 : World) b hH => Run.start (w1 := w1) (w := w2) (b := b) (n := psOf ps) (D := 1000000) h0 h1 h2 h3 (by omega) (by omega) hH)
  have SB := Lib.hid (start_bal (n := psOf ps) h0 h1 h2 h3)
  unfold IsSet at ST
  generalize setS (newS (psOf ps)) (1 + t0) (1 + t1) = dd at *
  have hgA := alloc1 w (.cells #[.int .u32 t0, .int .u32 t1] 52)
  have hA := heap_alloc_new w (.cells #[.int .u32 t0, .int .u32 t1] 52)
  have HC := Lib.hid (hC.fresh hgA)
  clear hC
  go_enter Try.func7, Try.ntmps7
  go_wp2_with fail
  generalize w.alloc (.cells #[.int .u32 t0, .int .u32 t1] 52) = W at *
  go_at_call 10; refine (awake _).mono ?_; rintro e W1 ⟨rfl, hg1⟩
  have hA1 := (hg1.block _ (lt_of hA)).trans hA
  have hg2 : Below w.heap.size w W1 := hgA.trans (hg1.mono hgA.size)
  replace HC := Lib.hid (HC.out.fresh hg1)
  have hAl := lt_of hA1
  clear hA hg1 hgA
  generalize htb : w.heap.size = tb at *
  have HT := Lib.hid htb
  clear htb
  obtain ⟨a0, a1, az⟩ := two hA1
  go_wp2_with fail
  go_at_call 24; refine (ST.out _).mono ?_; rintro e w2 ⟨b, rfl, hh2, hg3⟩
  have hA3 := (hg3.block _ hAl).trans hA1
  have hR := RS.out _ _ _ hh2
  clear a0 a1 az hh2
  have I0 : ExpA W1 b (psOf ps) (1 + t0) 200 (.int .i64 0) w2 := ⟨0, dd, by omega, rfl, rfl, hR⟩
  replace I0 := Lib.hid I0
  clear hR ST RS SB
  obtain ⟨i0, hi, hz0, hz1, hz2⟩ := info_parts infoL
  go_wp2_with fail
  go_loopg [9] 200 (fun left t wr => ExpA W1 b (psOf ps) (1 + t0) left t wr)
  case atStart => exact I0.out
  case round =>
    clear I0 hA3 hg3
    obtain ⟨k, d, hk, rfl, rfl, hR⟩ := hrel
    have hbw := hR.held.below
    by_cases hlt : k < len ∧ k < 100
    · obtain ⟨l1, l2⟩ := hlt
      have q1 : (k : Int) < len := by omega
      have q2 : (k : Int) < 100 := by omega
      obtain ⟨kb, off, rfl, hkb, e0, e1, e2, ⟨z0, z1, z2, z3⟩, c0, c1, c2⟩ := (HC.out.fresh hbw) k l1
      have sm := hR.small (by omega) (by omega)
      have dn : e2 % ((1000000 : Int) + 1) < 1000000 + 1 := Int.emod_lt_of_pos _ (by omega)
      have dm : 0 ≤ e2 % ((1000000 : Int) + 1) := Int.emod_nonneg _ (by omega)
      have SV := Lib.hid (serves wr b (· < W1.heap.size) d e0 e1 e2 ps 1000000 hR.held.band hR.held.lt hR.inv hR.lim p0 p1 z0 z1 z2 z3 (by omega) (by omega) (by omega) (by omega))
      have GO : Hid (∀ e w', Did (.tuple #[]) (serveS d e0 (e1 % psOf ps) (e2 % (1000000 + 1))) b (· < W1.heap.size) wr e w' → e = .returned (.tuple #[]) ∧ ExpA W1 b (psOf ps) (1 + t0) (200 - (k + 1)) (.int .i64 ((k : Int) + 1)) w') := fun e w' h => by
        obtain ⟨r1, r2⟩ := hR.did h
        exact ⟨r1, k + 1, _, by omega, by omega, by go_num, hR.next dm (by omega) r2⟩
      clear hR hbw dn dm
      generalize serveS d e0 (e1 % psOf ps) (e2 % (1000000 + 1)) = d' at *
      go_wp2_with fail
      go_at_call 25; refine SV.out.mono ?_; intro e w3 h3
      obtain ⟨rfl, g1⟩ := GO.out _ _ h3
      clear c0 c1 c2
      go_wp2_with fail
      go_roundg (200 - (k + 1))
      case measure => omega
      case rel => exact g1
    · have hd : ¬ (k : Int) < len ∨ ((k : Int) < len ∧ ¬ (k : Int) < 100) := by omega
      generalize wr = wA at *
      have hgF := Lib.hid (hg2.trans (hbw.mono (by have := hg2.size; omega)))
      have hA4 := (hbw.block tb hAl).trans hA1
      have LC : Hid (∀ w' (j : Nat), Below wA.heap.size wA w' → j < d.loc.length → Calls Try.prog 29 #[.pointer (some ⟨b, 0, none⟩), .int .i64 (j : Int)] w' (Still (.int .i64 (d.at j)) w')) := fun w' j hg hj => by
        have := locals w' b _ d (j : Int) (hR.held.band.fresh hg)
        rwa [show d.local (j : Int) = d.at j by simp [Bd.local, here_nat hj]] at this
      have hln : d.loc.length = 1 + m := by rw [hR.len, hpo]
      have hB1 : Hid (∀ w', Below wA.heap.size wA w' → Band w' b (fun k => k < W1.heap.size ∨ wA.heap.size ≤ k) d) := fun w' hg => (hR.held.band.other (O' := fun k => k < W1.heap.size ∨ wA.heap.size ≤ k) (fun k hk => hk)).fresh hg
      have hq := hR.q
      have hlim := hR.lim
      have hwl : W1.heap.size ≤ wA.heap.size := hbw.size
      have own0 : wA.ownsRow wA.heap.size 2 1 (.slice none 0 0) 0 (cL (d.loc.take 0)) := World.ownsRow_nil _ _ _ _
      have J0 : ExpB wA d (1 + m) (1 + m) (.slice none 0 0) (.int .i64 0) wA := ⟨0, by omega, rfl, rfl, own0, Below.refl _ _⟩
      replace J0 := Lib.hid J0
      clear hR hbw own0 hlt
      rcases hd with q1 | ⟨q1, q2⟩
      all_goals
        go_wp2_with fail
        go_loopg [10, 11] (1 + m) (fun left v t w3 => ExpB wA d (1 + m) left v t w3)
        case atStart => exact J0.out
        case round =>
          clear J0
          obtain ⟨j, hj, rfl, rfl, hown, hgw⟩ := hrel
          by_cases hjm : j < 1 + m
          · have s1 : (j : Int) < 1 + (m : Int) := by omega
            have L1 := Lib.hid (LC.out wr j hgw (by omega))
            have NX := Lib.hid (show ∀ v' w4, w4.ownsRow wA.heap.size 2 1 v' (j + 1) (cL (d.loc.take j) ++ [.int .i64 (d.at j)]) → Below wA.heap.size wA w4 → ExpB wA d (1 + m) (1 + m - (j + 1)) v' (.int .i64 ((j : Int) + 1)) w4 from fun v' w4 h1 h2 => ⟨j + 1, by omega, by omega, by go_num, by rw [cL_take (by omega)]; exact h1, h2⟩)
            have hz3 := hgw.size
            clear LC hB1
            generalize d.at j = x at *
            generalize cL (d.loc.take j) = xs at *
            go_wp2_with (first
              | (go_at_call 29; refine L1.out.mono ?_; rintro e w4 ⟨rfl, rfl⟩)
              | (at_builtin; refine wpList_append_own _ rfl (.tmp 48) (.tmp 52) 28 rfl wA.heap.size 2 i0 _ 1 8 Try.underlying28 hi hz0 hz1 hz2 rfl (by decide) _ _ _ rfl (hown.alloc _) ⟨wr.heap.size, 0, none⟩ 1 1 [.int .i64 x] rfl rfl (World.news_of_block (heap_alloc_new wr _)) (by simp [Value.oneCell']) (by simp only [maxLen]; omega) (by omega) (by simp; omega) ?_; intro v' w4 hown4 hgrow4 _))
            have hg4 := (hgw.alloc hz3 _).grown hgrow4 (by simp; omega) (fun j hj => (hown.lt j hj).1)
            go_roundg (1 + m - (j + 1))
            case measure => omega
            case rel => exact NX.out _ _ hown4 hg4
          · obtain rfl : j = 1 + m := by omega
            have s1 : ¬ ((1 + m : Nat) : Int) < 1 + (m : Int) := by omega
            have RF := Lib.hid (refill wr b _ d (hB1.out _ hgw) (by omega))
            obtain ⟨ao, cp, rfl⟩ := owns_shape hown
            have hA5 := (hgw.block tb (by omega)).trans hA4
            have OS : Hid (∀ w4, Same (fun k => k < W1.heap.size ∨ wA.heap.size ≤ k) wr w4 → w4.ownsRow wA.heap.size 2 1 (.slice ao (1 + m) cp) (1 + m) (cL d.loc) ∧ w4.heap[tb]? = some (.cells #[.int .u32 t0, .int .u32 t1] 52 (0, 0)) ∧ Below W1.heap.size wr w4) := fun w4 hs => by
              rw [List.take_of_length_le (by omega)] at hown
              exact ⟨owns_same hown hs (fun k hk => .inr (hown.lt k hk).1), (hs.block tb (.inl hAl)).trans hA5, (hs.mono (fun k hk => .inl hk)).below⟩
            have BE := Lib.hid (fun w4 (h : Below W1.heap.size wr w4) => hgF.out.trans ((((hgw.mono hwl).trans h)).mono (by have := hg2.size; omega)))
            clear LC hB1 hown
            go_wp2_with fail
            go_at_call 21; refine RF.out.mono ?_; rintro e w4 ⟨rfl, hB4, hs4⟩
            obtain ⟨own4, hA6, hb4⟩ := OS.out _ hs4
            have hF4 := Lib.hid (BE.out _ hb4)
            have PL : Hid (∀ nn, Calls Try.prog 28 #[.pointer (some ⟨b, 0, none⟩)] (w4.drewN nn) (fun e w'' => e = .returned (.int .i64 (1 + t0)) ∧ w'' = w4.drewN nn)) := fun nn => by
              have := pool _ b _ _ (hB4.fresh (drawn w4 nn))
              rw [show (refS d).p = 1 + t0 from hq] at this
              exact this.mono fun e w'' ⟨r1, r2⟩ => ⟨r1, r2.symm⟩
            have SP : Hid (∀ nn, Calls Try.prog 26 #[.pointer (some ⟨b, 0, none⟩)] (w4.drewN nn) (fun e w'' => e = .returned (.int .i64 0) ∧ w'' = w4.drewN nn)) := fun nn => (spent _ b _ _ (hB4.fresh (drawn w4 nn))).mono fun e w'' ⟨r1, r2⟩ => ⟨r1, r2.symm⟩
            have LC : Hid (∀ nn (j : Nat), j < d.loc.length → Calls Try.prog 29 #[.pointer (some ⟨b, 0, none⟩), .int .i64 (j : Int)] (w4.drewN nn) (fun e w'' => e = .returned (.int .i64 (min (d.at j) 0)) ∧ w'' = w4.drewN nn)) := fun nn j hj => by
              have := locals _ b _ _ (j : Int) (hB4.fresh (drawn w4 nn))
              rw [show (refS d).local (j : Int) = (refS d).at j by simp [Bd.local, here_nat (show j < (refS d).loc.length by rw [len_ref]; exact hj)], ref_at] at this
              exact this.mono fun e w'' ⟨r1, r2⟩ => ⟨r1, r2.symm⟩
            clear hB4 hs4 OS BE RF hb4
            have K0 : ExpC w4 (1 + m) (1 + m) (.int .i64 0) w4 := ⟨0, 0, by omega, rfl, rfl, Lib.hid rfl⟩
            replace K0 := Lib.hid K0
            go_wp2_with fail
            go_loopg [12] (1 + m) (fun left t w5 => ExpC w4 (1 + m) left t w5)
            case atStart => exact K0.out
            case round =>
              clear K0
              obtain ⟨i, nn, hi9, rfl, rfl, HW⟩ := hrel
              have hW := HW.out
              subst hW
              by_cases him : i < 1 + m
              · have u1 : (i : Int) < ((1 + m : Nat) : Int) := by omega
                obtain ⟨g9, c9, e9, u9, _⟩ := row_cell (owns_fresh own4 (drawn w4 nn)) (cL_at (d := d) (k := i) (by omega))
                cases e9
                have L1 := Lib.hid (fun k => LC.out k i (by omega))
                have NX := Lib.hid (show ∀ k, ExpC w4 (1 + m) (1 + m - (i + 1)) (.int .i64 ((i : Int) + 1)) ((w4.drewN nn).drewN k) from fun k => ⟨i + 1, nn + k, by omega, by omega, by go_num, Lib.hid (by rw [World.drewN_drewN])⟩)
                have L2 : Hid (∀ k, Calls Try.prog 29 #[.pointer (some ⟨b, 0, none⟩), .int .i64 (i : Int)] ((w4.drewN nn).drewN k) (fun e w'' => e = .returned (.int .i64 (min (d.at i) 0)) ∧ w'' = (w4.drewN nn).drewN k)) := fun k => by rw [World.drewN_drewN]; exact L1.out _
                clear LC L1 PL SP own4 hA6
                generalize d.at i = x at *
                generalize w4.drewN nn = W5 at *
                by_cases hx : 0 < x
                · rw [show min x 0 = 0 by omega] at L2
                  go_wp2_with fail
                  go_quiet (first
                    | (go_at_call 29; exact Calls.quiet_of_same (L2.out _)))
                  go_wp2_with fail
                  go_roundg (1 + m - (i + 1))
                  case measure => omega
                  case rel => exact NX.out _
                · rw [show min x 0 = x by omega] at L2
                  go_wp2_with fail
                  go_quiet (first
                    | (go_at_call 29; exact Calls.quiet_of_same (L2.out _)))
                  go_wp2_with fail
                  go_roundg (1 + m - (i + 1))
                  case measure => omega
                  case rel => exact NX.out _
              · obtain rfl : i = 1 + m := by omega
                have u1 : ¬ ((1 + m : Nat) : Int) < ((1 + m : Nat) : Int) := by omega
                have P2 : Hid (∀ k, Calls Try.prog 28 #[.pointer (some ⟨b, 0, none⟩)] ((w4.drewN nn).drewN k) (fun e w'' => e = .returned (.int .i64 (1 + t0)) ∧ w'' = (w4.drewN nn).drewN k)) := fun k => by rw [World.drewN_drewN]; exact PL.out _
                have S2 : Hid (∀ k, Calls Try.prog 26 #[.pointer (some ⟨b, 0, none⟩)] ((w4.drewN nn).drewN k) (fun e w'' => e = .returned (.int .i64 0) ∧ w'' = (w4.drewN nn).drewN k)) := fun k => by rw [World.drewN_drewN]; exact SP.out _
                obtain ⟨a0, a1, az⟩ := two (box_fresh hA6 (drawn w4 nn))
                have FE := Lib.hid (fun k => (show Below tb w ((w4.drewN nn).drewN k) from hF4.out.trans (((drawn w4 nn).trans ((drawn (w4.drewN nn) k).mono (drawn w4 nn).size)).mono (by have := lt_of hA6; omega))))
                clear LC PL SP own4 hA6
                generalize w4.drewN nn = W5 at *
                go_wp2_with fail
                go_quiet (first
                  | (go_at_call 28; exact Calls.quiet_of_same (P2.out _))
                  | (go_at_call 26; exact Calls.quiet_of_same (S2.out _)))
                go_wp2_with fail
                go_ret
                exact ⟨by simp, by rw [HT.out]; exact FE.out _⟩
end Go.Proofs.Ytjjcaplkmbigdaa.Quota
