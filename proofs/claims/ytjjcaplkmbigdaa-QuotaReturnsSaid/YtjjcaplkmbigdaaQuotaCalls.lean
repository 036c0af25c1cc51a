/- The calls of the law's own package: set, serve, local. Conditions: as each fact states them. -/
import Derived.Test.YtjjcaplkmbigdaaQuotaLaws
namespace Go.Proofs.Ytjjcaplkmbigdaa.Quota
open Go.ChangeShapes Go.WideShapes Go.ChangeAt Go.RowKit Mem
open Fix (I64)
set_option linter.unusedVariables false
set_option linter.unusedSimpArgs false
set_option maxRecDepth 100000

/-- How many Ps: as the law reckons them. -/
def psOf (ps : Int) : Nat := 1 + (ps % 8).toNat
theorem psOf_le (ps : Int) : psOf ps ≤ 8 ∧ 1 ≤ psOf ps := by unfold psOf; omega
theorem badSet_no {t0 t1 : Int} (h0 : 0 ≤ t0) (h1 : t0 < 4294967296) (h2 : 0 ≤ t1) (h3 : t1 < 4294967296) : badSet (1 + t0) (1 + t1) = false := by
  simp [badSet]; omega
def IsSet (n : Nat) (t0 t1 : Int) (w0 w : World) (e : Ending) (w' : World) : Prop := ∃ b, e = .returned (.pointer (some ⟨b, 0, none⟩)) ∧ Held w0 (· < w.heap.size) b (setS (newS n) (1 + t0) (1 + t1)) w' ∧ Below w.heap.size w w'

set_option maxHeartbeats 400000 in
theorem sets (w0 w : World) (ps t0 t1 : Int) (hb : Below w0.heap.size w0 w) (p0 : 0 ≤ ps) (p1 : ps < 256) (h0 : 0 ≤ t0) (h1 : t0 < 4294967296) (h2 : 0 ≤ t1) (h3 : t1 < 4294967296) :
    Calls Try.prog 24 #[.int .u8 ps, .agg #[.int .u32 t0, .int .u32 t1]] w (IsSet (psOf ps) t0 t1 w0 w) := by
  obtain ⟨m, hm⟩ : ∃ m : Nat, ps % 8 = (m : Int) := ⟨(ps % 8).toNat, by omega⟩
  have hm8 : m < 8 := by omega
  rw [show psOf ps = 1 + m by unfold psOf; omega]
  have C0 : Hid (∀ w1, Below w0.heap.size w0 w1 → Calls Try.prog 11 #[.int .i64 (1 + (m : Int))] w1 (Res (.tuple #[.pointer (some ⟨w1.heap.size + 1, 0, none⟩), .int .i64 0]) w0 (· < w1.heap.size) (w1.heap.size + 1) (newS (1 + m)) w1)) := fun w1 hb => by
    rw [show (1 + (m : Int)) = ((1 + m : Nat) : Int) by omega]
    exact (new w1 (1 + m) (by omega) (by omega)).mono fun e w' r => Held.new hb r
  have C1 := Lib.hid (fun w1 O b (h : Held w0 O b (newS (1 + m)) w1) => h.set (1 + t0) (1 + t1) (by rw [len_new]; omega))
  have hbs := badSet_no h0 h1 h2 h3
  rw [show setE (1 + t0) (1 + t1) = 0 by simp [setE, hbs]] at C1
  clear hbs
  have hgA := alloc1 w (.cells #[.int .u32 t0, .int .u32 t1] 52)
  have hA := heap_alloc_new w (.cells #[.int .u32 t0, .int .u32 t1] 52)
  have hbA := hb.trans (hgA.mono hb.size)
  unfold IsSet
  generalize setS (newS (1 + m)) (1 + t0) (1 + t1) = d at *
  have hzA : (w.alloc (.cells #[.int .u32 t0, .int .u32 t1] 52)).heap.size = w.heap.size + 1 := by simp
  have ltA := lt_of hA
  go_enter Try.func24, Try.ntmps24
  go_wp2_with fail
  generalize w.alloc (.cells #[.int .u32 t0, .int .u32 t1] 52) = W at *
  replace C0 := Lib.hid (C0.out _ hbA)
  generalize W.heap.size + 1 = b at C0
  go_at_call 11; refine C0.out.mono ?_; rintro e w1 ⟨rfl, hh1, hs1⟩
  have hA1 := (hs1.block _ (lt_of hA)).trans hA
  have hg1 := hs1.below
  obtain ⟨a0, a1, az⟩ := two hA1
  have hh2 := hh1.other (O' := (· < w.heap.size + 1)) (fun k hk => .inl (by omega)) (fun k hk => by have := lt_of hA1; omega) (fun k hk => by have := hb.size; omega)
  clear C0
  go_wp2_with fail
  go_at_call 13; refine (C1.out _ _ _ hh2).mono ?_; rintro e w2 ⟨rfl, hh3, hs3⟩
  have hg2 := hs3.below
  have hgF : Below w.heap.size w w2 := (hgA.trans (hg1.mono (by omega))).trans (hg2.mono (by omega))
  have hh4 := hh3.other (O' := (· < w.heap.size)) (fun k hk => .inl (by omega)) (fun k hk => Nat.lt_of_lt_of_le hk hgF.size) (fun k hk => by have := hb.size; omega)
  clear C1 hh3 hs3 hh2 hh1 hs1
  go_wp2_with fail
  go_ret
  exact ⟨_, rfl, hh4, hgF⟩

/-- The total of the first k local times. -/
def sumK (d : Bd) : Nat → Int
  | 0 => 0
  | k + 1 => sumK d k + d.at k
theorem tot_append (a b : List Int) : tot (a ++ b) = tot a + tot b := by
  induction a with
  | nil => simp [tot]
  | cons x a ih => simp only [List.cons_append, tot, ih]; omega
theorem sumK_take (d : Bd) (k : Nat) (hk : k ≤ d.loc.length) : sumK d k = tot (d.loc.take k) := by
  induction k with
  | zero => simp [sumK, tot]
  | succ k ih =>
    rw [sumK, ih (by omega), List.take_succ_eq_append_getElem (by omega), tot_append]
    simp [tot, Bd.at, List.getElem?_eq_getElem (show k < d.loc.length by omega)]
theorem sumK_all (d : Bd) : sumK d d.loc.length = tot d.loc := by rw [sumK_take _ _ (Nat.le_refl _), List.take_length]
theorem sumK_bd {M S : Int} {d : Bd} (h : Inv M S d) (hM : M ≤ 1125000000000000) (k : Nat) : -(k * 1200000000000000) ≤ sumK d k ∧ sumK d k ≤ k * 1200000000000000 := by
  induction k with
  | zero => simp [sumK]
  | succ k ih =>
    have h1 := h.at_ge k; have h2 := h.at_le k; have h3 := h.p0; have h4 := h.q1
    have e : ((k + 1 : Nat) : Int) * 1200000000000000 = k * 1200000000000000 + 1200000000000000 := by omega
    rw [e, sumK]; omega
def SumI (d : Bd) (n : Nat) (w : World) (left : Nat) (s t : Value) (wr : World) : Prop := ∃ k : Nat, k ≤ n ∧ left = n - k ∧ s = .int .i64 (sumK d k) ∧ t = .int .i64 k ∧ wr = w
theorem local_as (w : World) (b : Nat) (O : Nat → Prop) (d : Bd) (ps : Int) (h : Band w b O d) (hn : d.loc.length = psOf ps) (p0 : 0 ≤ ps) (p1 : ps < 256) {M S : Int} (hi : Inv M S d) (hM : M ≤ 1125000000000000) :
    Calls Try.prog 27 #[.pointer (some ⟨b, 0, none⟩), .int .u8 ps] w (Still (.int .i64 (tot d.loc)) w) := by
  obtain ⟨m, hm⟩ : ∃ m : Nat, ps % 8 = (m : Int) := ⟨(ps % 8).toNat, by omega⟩
  have hm8 : m < 8 := by omega
  rw [show psOf ps = 1 + m by unfold psOf; omega] at hn
  have L := Lib.hid (fun k : Nat => locals w b O d k h)
  have SB := Lib.hid (sumK_bd hi hM)
  rw [← sumK_all, hn]
  have hH := Lib.hid hn
  go_enter Try.func27, Try.ntmps27
  go_wp2_with fail
  go_loopg [5, 6] (1 + m) (fun left s t wr => SumI d (1 + m) w left s t wr)
  case atStart => exact ⟨0, by omega, rfl, rfl, rfl, rfl⟩
  case round =>
    obtain ⟨k, hk, rfl, rfl, rfl, rfl⟩ := hrel
    by_cases hlt : k < 1 + m
    · have q1 : (k : Int) < 1 + (m : Int) := by omega
      have L1 := Lib.hid (L.out k)
      rw [show d.local k = d.at k by simp [Bd.local, here_nat (show k < d.loc.length by omega)]] at L1
      have s1 := SB.out k
      have s2 := SB.out (k + 1)
      rw [show sumK d (k + 1) = sumK d k + d.at k from rfl] at s2
      have NX := Lib.hid (show ∀ x, x = sumK d k + d.at k → SumI d (1 + m) wr (1 + m - (k + 1)) (.int .i64 x) (.int .i64 ((k : Int) + 1)) wr from fun x hx => ⟨k + 1, by omega, rfl, by rw [hx]; rfl, by go_num, rfl⟩)
      have k8 : (k : Int) ≤ 8 := by omega
      clear L SB hi h hn
      generalize sumK d k = s at *
      generalize d.at k = x at *
      go_wp2_with (go_at_call 29; refine L1.out.mono ?_; rintro e w1 ⟨rfl, rfl⟩)
      go_roundg (1 + m - (k + 1))
      case measure => omega
      case rel => exact NX.out _ (by first | rfl | omega)
    · obtain rfl : k = 1 + m := by omega
      have q1 : ¬ (((1 + m : Nat) : Int)) < 1 + (m : Int) := by omega
      clear L SB hi h hn
      go_wp2_with fail
      go_ret
      exact ⟨rfl, rfl⟩

theorem serves (w : World) (b : Nat) (O : Nat → Prop) (d : Bd) (kind p ns ps tick : Int) (hB : Band w b O d) (hO : ∀ k, O k → k < w.heap.size) {D S : Int} (hi : Inv D S d) (hl : lim d = true) (p0 : 0 ≤ ps) (p1 : ps < 256) (r0 : 0 ≤ p) (r1 : p < 256) (n0 : 0 ≤ ns) (n1 : ns < 4294967296) (t0 : 0 ≤ tick) (t1 : tick ≤ 1000000000) (hD : D ≤ 1000000000) (hS : S ≤ 1000000000000) :
    Calls Try.prog 25 #[.pointer (some ⟨b, 0, none⟩), .agg #[.int .i64 kind, .int .u8 p, .int .u32 ns], .int .u8 ps, .int .i64 tick] w (Did (.tuple #[]) (serveS d kind (p % psOf ps) (ns % (tick + 1))) b O w) := by
  obtain ⟨m, hm⟩ : ∃ m : Nat, ps % 8 = (m : Int) := ⟨(ps % 8).toNat, by omega⟩
  have hm8 : m < 8 := by omega
  rw [show ((psOf ps : Nat) : Int) = 1 + (m : Int) by unfold psOf; omega]
  obtain ⟨j, hj⟩ : ∃ j : Nat, p % (1 + (m : Int)) = (j : Int) := ⟨(p % (1 + (m : Int))).toNat, by have := Int.emod_nonneg p (show (1 + (m : Int)) ≠ 0 by omega); omega⟩
  obtain ⟨x, hx⟩ : ∃ x : Nat, ns % (tick + 1) = (x : Int) := ⟨(ns % (tick + 1)).toNat, by have := Int.emod_nonneg ns (show tick + 1 ≠ 0 by omega); omega⟩
  have hj1 : (j : Int) < 1 + (m : Int) := by rw [← hj]; exact Int.emod_lt_of_pos _ (by omega)
  have hx1 : (x : Int) < tick + 1 := by rw [← hx]; exact Int.emod_lt_of_pos _ (by omega)
  rw [hj, hx]
  have m1 : ¬ (1 + (m : Int)) = 0 := by omega
  have m2 : ¬ tick + 1 = 0 := by omega
  have hA := heap_alloc_new w (.cells #[.int .i64 kind, .int .u8 p, .int .u32 ns] 55)
  have hgA := alloc1 w (.cells #[.int .i64 kind, .int .u8 p, .int .u32 ns] 55)
  have hB1 := (hB.other (O' := With O w.heap.size) (fun k hk => hk.elim .inl fun e => .inr (by omega))).fresh hgA
  have hO1 := with_alloc hO (.cells #[.int .i64 kind, .int .u8 p, .int .u32 ns] 55)
  have SA := Lib.hid (Same.of (O := O) hgA hO)
  have FB : Hid (∀ w' d', Band w' b (With O w.heap.size) d' → Band w' b O d') := fun w' d' h => h.other fun k hk => .inl (.inl hk)
  have RT := Lib.hid (returns _ b (With O w.heap.size) d (j : Int) hB1 hi)
  have EN := Lib.hid (ensure _ b (With O w.heap.size) d (j : Int) hB1 hO1 hi (by omega))
  have CH := Lib.hid (fun w1 (h1 : Band w1 b (With O w.heap.size) (ensS d j)) (h2 : ∀ k, With O w.heap.size k → k < w1.heap.size) => charge w1 b (With O w.heap.size) (ensS d j) (j : Int) (x : Int) h1 h2 (hi.ens j) (by omega) (by omega))
  obtain ⟨a0, a1, a2, az⟩ := three hA
  clear hB hB1 hi hl hgA
  by_cases k1 : kind = 1
  · subst k1
    rw [show serveS d 1 j x = retS d j by simp [serveS]]
    clear EN CH
    go_enter Try.func25, Try.ntmps25
    go_wp2_with fail
    go_at_call 19; refine RT.out.mono ?_; rintro e w1 ⟨rfl, h1, s1⟩
    go_wp2_with fail
    exact bodyPost_ret (v := .tuple #[]) (by simp [results, Try.results25]) rfl ⟨rfl, FB.out _ _ h1, SA.out.trans s1.without⟩
  have k2 : (kind == 1) = false := by simpa using k1
  clear RT
  cases hb : ensB d j
  · rw [show serveS d kind j x = ensS d j by simp [serveS, k1, hb]]
    rw [hb] at EN
    clear CH
    go_enter Try.func25, Try.ntmps25
    go_wp2_with fail
    go_at_call 15; refine EN.out.mono ?_; rintro e w1 ⟨rfl, h1, s1⟩
    go_wp2_with fail
    go_end0
    exact ⟨rfl, FB.out _ _ h1, SA.out.trans s1.without⟩
  · rw [show serveS d kind j x = chgS (ensS d j) j x by simp [serveS, k1, hb]]
    rw [hb] at EN
    go_enter Try.func25, Try.ntmps25
    go_wp2_with fail
    go_at_call 15; refine EN.out.mono ?_; rintro e w1 ⟨rfl, h1, s1⟩
    have hA1 := (s1.block _ (.inr rfl)).trans hA
    have CH1 := Lib.hid (CH.out w1 h1 (fun k hk => Nat.lt_of_lt_of_le (hO1 k hk) s1.size))
    have S1 := Lib.hid (SA.out.trans s1.without)
    clear a0 a1 a2 az CH h1 s1 EN SA
    obtain ⟨a0, a1, a2, az⟩ := three hA1
    go_wp2_with fail
    go_at_call 17; refine CH1.out.mono ?_; rintro e w2 ⟨rfl, h2, s2⟩
    go_wp2_with fail
    go_end0
    exact ⟨rfl, FB.out _ _ h2, S1.out.trans s2.without⟩
end Go.Proofs.Ytjjcaplkmbigdaa.Quota
