/- The walks of PullNears, PullMay and PullBest. Conditions: each argument is a number of its kind; a slice has room for what it holds. -/
import Derived.Test.YtjbhighfajdfhaaPullReal
namespace Go.Proofs.Ytjbhighfajdfhaa.Pull
open Go.ChangeShapes Go.WideShapes Go.ChangeAt Go.RowKit Load
set_option linter.unusedVariables false
set_option linter.unusedSimpArgs false
attribute [local irreducible] Go.wpQuiet

/-- A slice of tasks that came in. -/
structure In (v : Option Addr) (n cap : Nat) (C : Nat → Cd) (w : World) : Prop where
  lies : Cs v n C w
  nums : ∀ j, j < n → (C j).Ok
  room : n ≤ cap
  nils : v = none → n = 0
theorem In.fresh {v : Option Addr} {n cap : Nat} {C : Nat → Cd} {w w' : World} (h : In v n cap C w) (hg : Below w.heap.size w w') : In v n cap C w' := ⟨h.lies.fresh hg, h.nums, h.room, h.nils⟩
theorem In.less {v : Option Addr} {n k cap : Nat} {C : Nat → Cd} {w : World} (h : In v n cap C w) (hk : k ≤ n) : In v k cap C w := ⟨h.lies.less hk, fun j hj => h.nums j (by omega), by have := h.room; omega, fun e => by have := h.nils e; omega⟩
theorem few' (v : Option Addr) (n cap : Nat) (C : Nat → Cd) (w : World) (hn : n ≤ 9223372036854775807) (h : In v n cap C w) :
    Calls Try.prog 10 #[.slice v n cap] w (Is (.slice v (min n 100) cap) w) := few v n cap w hn h.room h.nils
theorem choose' (v : Option Addr) (n cap : Nat) (C : Nat → Cd) (f t p : Int) (w : World) (hf : U64 f) (ht : U64 t) (hn : n ≤ 100) (h : In v n cap C w) :
    Calls Try.prog 11 #[.slice v n cap, .int .u64 f, .int .u64 t, .int .i64 p] w (Two (cho C (gap f t) p n) w) := chooses v n cap C f t p w hf ht (by omega) (Lib.hid h.nums) (Lib.hid h.lies)

theorem gap_may {C : Nat → Cd} {f t p : Int} {q : Nat} (h : mayc (C q) (gap f t) p = true) : t < f ∧ gap f t = f - t ∧ 0 < (C q).wt ∧ (C q).wt < f - t := by
  obtain ⟨_, _, h1, h2⟩ := mayc_iff.1 h
  unfold gap at *
  split at h2
  · omega
  · rename_i h3
    exact ⟨by omega, by rw [if_neg h3], h1, h2⟩

set_option maxRecDepth 100000 in
set_option maxHeartbeats 4000000 in
theorem nearsLaw (v : Option Addr) (n cap : Nat) (C : Nat → Cd) (f t p : Int) (w : World) (hf : U64 f) (ht : U64 t) (hn : n ≤ 9223372036854775807) (h : In v n cap C w) :
    Calls Try.prog 4 #[.slice v n cap, .int .u64 f, .int .u64 t, .int .i64 p] w (Yes w) := by
  have S := Lib.hid (fun w => shown w)
  have hI := Lib.hid h
  have FW := Lib.hid (fun w (h : In v n cap C w) => few' v n cap C w hn h)
  have IL : Hid (∀ w, In v n cap C w → In v (min n 100) cap C w) := Lib.hid fun w h => h.less (by omega)
  have hk : min n 100 ≤ 100 := by omega
  have hln : min n 100 ≤ n := by omega
  generalize min n 100 = l at *
  have CH := Lib.hid (fun w (h : In v l cap C w) => choose' v l cap C f t p w hf ht hk h)
  have hg := Below.refl w.heap.size w
  rcases cho_end C (gap f t) p l with hR | ⟨q, hR, hq, hm⟩
  · clear h
    rw [hR] at CH
    unfold Two plc fnd at CH
    simp only at CH
    go_enter Try.func4, Try.ntmps4
    go_wp2_with (first
      | (go_at_call 9; refine (S.out _).mono ?_; rintro e w' ⟨rfl, hg1⟩; replace hI := Lib.hid (hI.out.fresh hg1); replace hg := fresh_trans hg hg1; clear hg1)
      | (go_at_call 10; refine (FW.out _ hI.out).mono ?_; rintro e w1 ⟨rfl, hw⟩; replace hw := hw.symm; subst hw; replace hI := Lib.hid (IL.out _ hI.out))
      | (go_at_call 11; refine (CH.out _ hI.out).mono ?_; rintro e w2 ⟨rfl, hg1⟩; replace hI := Lib.hid (hI.out.fresh hg1); replace hg := fresh_trans hg hg1; clear hg1)
      | (go_at_call 14; refine (AF.out _).mono ?_; rintro e w3 ⟨rfl, hg1⟩; replace hI := Lib.hid (hI.out.fresh hg1); replace hg := fresh_trans hg hg1; clear hg1)
      | (go_at_call 18; first | ((with_reducible refine (D1.out _).mono ?_); rintro e w4 ⟨rfl, hw⟩; replace hw := hw.symm; subst hw) | ((with_reducible refine (D2.out _).mono ?_); rintro e w5 ⟨rfl, hw⟩; replace hw := hw.symm; subst hw)))
    go_ret
    exact yes_of rfl hg
  · obtain ⟨g1, g2, g3, g4⟩ := gap_may hm
    rw [hR] at CH
    unfold Two at CH
    rw [plc_nat, fnd_nat] at CH
    have hqn : q < n := by omega
    obtain ⟨_, _, o2, o3, _⟩ := h.nums q hqn
    obtain ⟨b1, o1, rfl, _⟩ := h.lies q hqn
    have XL : Hid (∀ w', In (some ⟨b1, o1, none⟩) l cap C w' → w'.cell? ⟨b1, o1 + q * 4 + 1, none⟩ = some (.int .u64 (C q).wt)) := Lib.hid fun w' h => by
      obtain ⟨b2, o2, e, _, _, x1, _⟩ := h.lies q hq
      cases e; exact x1
    clear h
    have q0 : (0 : Int) ≤ q := by omega
    have q1 : (q : Int) < l := by omega
    have AF := Lib.hid (fun w => after f t (C q).wt w hf ht ⟨o2, o3⟩)
    obtain ⟨f0, f1⟩ := hf
    obtain ⟨t0, t1⟩ := ht
    generalize (C q).wt = x at *
    have ea : gap f x = f - x := by unfold gap; rw [if_neg (by omega)]
    have eb : top t x = t + x := by unfold top; omega
    rw [ea, eb] at AF
    have D1 := Lib.hid (fun w => diffs (f - x) (t + x) w (by unfold U64; omega) (by unfold U64; omega))
    have D2 := Lib.hid (fun w => diffs f t w ⟨f0, f1⟩ ⟨t0, t1⟩)
    have hd : dif (f - x) (t + x) < dif f t := by unfold dif; omega
    have e3 : IntKind.u64.wrap (f - x + (t + x)) = IntKind.u64.wrap (f + t) := by rw [show f - x + (t + x) = f + t by omega]
    generalize dif (f - x) (t + x) = d1 at *
    generalize dif f t = d2 at *
    have n1 : ¬ f ≤ t := by omega
    have n2 : ¬ (q : Int) < 0 := by omega
    have n3 : ¬ (l : Int) ≤ q := by omega
    go_enter Try.func4, Try.ntmps4
    go_wp2_with (first
      | (go_at_call 9; refine (S.out _).mono ?_; rintro e w' ⟨rfl, hg1⟩; replace hI := Lib.hid (hI.out.fresh hg1); replace hg := fresh_trans hg hg1; clear hg1)
      | (go_at_call 10; refine (FW.out _ hI.out).mono ?_; rintro e w1 ⟨rfl, hw⟩; replace hw := hw.symm; subst hw; replace hI := Lib.hid (IL.out _ hI.out))
      | (go_at_call 11; refine (CH.out _ hI.out).mono ?_; rintro e w2 ⟨rfl, hg1⟩; replace hI := Lib.hid (hI.out.fresh hg1); replace hg := fresh_trans hg hg1; clear hg1; have x1 := XL.out _ hI.out)
      | (go_at_call 14; refine (AF.out _).mono ?_; rintro e w3 ⟨rfl, hg1⟩; replace hI := Lib.hid (hI.out.fresh hg1); replace hg := fresh_trans hg hg1; clear hg1)
      | (go_at_call 18; first | ((with_reducible refine (D1.out _).mono ?_); rintro e w4 ⟨rfl, hw⟩; replace hw := hw.symm; subst hw) | ((with_reducible refine (D2.out _).mono ?_); rintro e w5 ⟨rfl, hw⟩; replace hw := hw.symm; subst hw)))
    go_ret
    exact yes_of (by simp) hg

theorem cho_fnd {C : Nat → Cd} {g p : Int} {k : Nat} (hC : ∀ j, j ≤ k → (C j).Ok) : fnd (cho C g p (k + 1)) = (fnd (cho C g p k) || mayc (C k) g p) := by
  cases hm : mayc (C k) g p
  · rw [cho_keep hm]; simp
  · rcases cho_end C g p k with hR | ⟨q, hR, hq, hmq⟩
    · rw [cho_first hm hR, fnd_nat]; simp
    · rw [cho_more hC hq hm hR hmq]
      split <;> simp [fnd_nat]

def MayI (C : Nat → Cd) (G p : Int) (n : Nat) (w : World) (left : Nat) (t13 t14 : Value) (wr : World) : Prop :=
  ∃ k : Nat, left + k = n ∧ t13 = .bool (fnd (cho C G p k)) ∧ t14 = .int .i64 k ∧ Below w.heap.size w wr

/-- Where one may, in the law's own words. -/
theorem mayc_law {c : Cd} {f t p : Int} : mayc c (gap f t) p = (allow c.ms p && !c.rn && decide (0 < c.wt) && decide (t < f) && decide (c.wt < f - t)) := by
  unfold mayc gap
  by_cases h : f < t
  · rw [if_pos h, decide_eq_false (show ¬ t < f by omega)]
    by_cases h0 : 0 < c.wt
    · rw [decide_eq_false (show ¬ c.wt < 0 by omega)]; simp
    · rw [decide_eq_false h0]; simp
  · rw [if_neg h]
    by_cases h1 : t < f
    · rw [decide_eq_true h1]; simp
    · by_cases h0 : 0 < c.wt
      · rw [decide_eq_false (show ¬ c.wt < f - t by omega)]; simp
      · rw [decide_eq_false h0]; simp

set_option maxRecDepth 100000 in
set_option maxHeartbeats 4000000 in
theorem mayLaw (v : Option Addr) (n cap : Nat) (C : Nat → Cd) (f t p : Int) (w : World) (hf : U64 f) (ht : U64 t) (hn : n ≤ 9223372036854775807) (h : In v n cap C w) :
    Calls Try.prog 5 #[.slice v n cap, .int .u64 f, .int .u64 t, .int .i64 p] w (Yes w) := by
  have S := Lib.hid (fun w => shown w)
  have hI := Lib.hid h
  have FW := Lib.hid (fun w (h : In v n cap C w) => few' v n cap C w hn h)
  have IL : Hid (∀ w, In v n cap C w → In v (min n 100) cap C w) := Lib.hid fun w h => h.less (by omega)
  have hk : min n 100 ≤ 100 := by omega
  have hln : min n 100 ≤ n := by omega
  generalize min n 100 = l at *
  have CH := Lib.hid (fun w (h : In v l cap C w) => choose' v l cap C f t p w hf ht hk h)
  have hg := Below.refl w.heap.size w
  clear h
  unfold Two at CH
  have ME : Hid (∀ k, mayc (C k) (gap f t) p = (allow (C k).ms p && !(C k).rn && decide (0 < (C k).wt) && decide (t < f) && decide ((C k).wt < f - t))) := Lib.hid fun k => mayc_law
  have RE := Lib.hid (cho_end C (gap f t) p l)
  obtain ⟨G, hG⟩ : ∃ G, gap f t = G := ⟨_, rfl⟩
  rw [hG] at CH ME RE
  clear hG
  obtain ⟨pl, hpl⟩ : ∃ x, plc (cho C G p l) = x := ⟨_, rfl⟩
  obtain ⟨fd, hfd⟩ : ∃ x, fnd (cho C G p l) = x := ⟨_, rfl⟩
  rw [hpl, hfd] at CH
  have HP := Lib.hid hpl
  have HD := Lib.hid hfd
  clear hpl hfd
  unfold U64 at hf ht
  go_enter Try.func5, Try.ntmps5
  go_wp2_with (first
    | (go_at_call 9; refine (S.out _).mono ?_; rintro e w' ⟨rfl, hg1⟩; replace hI := Lib.hid (hI.out.fresh hg1); replace hg := fresh_trans hg hg1; clear hg1)
    | (go_at_call 10; refine (FW.out _ hI.out).mono ?_; rintro e w1 ⟨rfl, hw⟩; replace hw := hw.symm; subst hw; replace hI := Lib.hid (IL.out _ hI.out))
    | (go_at_call 11; refine (CH.out _ hI.out).mono ?_; rintro e w2 ⟨rfl, hg1⟩; replace hI := Lib.hid (hI.out.fresh hg1); replace hg := fresh_trans hg hg1; clear hg1)
    | (go_at_call 14; refine (AF.out _).mono ?_; rintro e w3 ⟨rfl, hg1⟩; replace hI := Lib.hid (hI.out.fresh hg1); replace hg := fresh_trans hg hg1; clear hg1)
    | (go_at_call 18; first | ((with_reducible refine (D1.out _).mono ?_); rintro e w4 ⟨rfl, hw⟩; replace hw := hw.symm; subst hw) | ((with_reducible refine (D2.out _).mono ?_); rintro e w5 ⟨rfl, hw⟩; replace hw := hw.symm; subst hw)))
  go_loopg [13, 14] l (fun left t13 t14 wr => MayI C G p l w2 left t13 t14 wr)
  case atStart => exact ⟨0, by omega, rfl, rfl, Below.refl _ _⟩
  case round =>
    clear S FW IL CH
    obtain ⟨k, hk', rfl, rfl, hb⟩ := hrel
    by_cases hlt : k < l
    · have h3 : (k : Int) < l := by omega
      have k0 : (0 : Int) ≤ k := by omega
      obtain ⟨b1, o1, rfl, hb1, x0, x1, x2, x3⟩ := hI.out.lies.fresh hb k hlt
      obtain ⟨_, _, u0, u1, u2⟩ := hI.out.nums k hlt
      have HF : Hid (∀ b wx, b = (fnd (cho C G p k) || mayc (C k) G p) → Below w2.heap.size w2 wx → MayI C G p l w2 (gk - 1) (.bool b) (.int .i64 ((k : Int) + 1)) wx) := Lib.hid fun b wx e h => ⟨k + 1, by omega, by rw [e, cho_fnd fun j hj => hI.out.nums j (by omega)], by go_num, h⟩
      have hsz := hb.size
      have MK := ME.out k
      generalize mayc (C k) G p = mk at *
      generalize fnd (cho C G p k) = fk at *
      generalize C k = ck at *
      obtain ⟨ki, kw, km, kr⟩ := ck
      simp only at x0 x1 x2 x3 MK u0 u1 u2
      have hba := hb.alloc hsz (.cells #[.int .i64 ki, .int .u64 kw, .int .u64 (km : Int), .bool kr] 35 (0, 0))
      obtain ⟨c0, c1, c2, c3, cz⟩ := four (heap_alloc_new wr (.cells #[.int .i64 ki, .int .u64 kw, .int .u64 (km : Int), .bool kr] 35 (0, 0)))
      cases fk
      · by_cases a0 : 0 ≤ p
        · obtain ⟨pk, rfl⟩ : ∃ pk : Nat, p = pk := ⟨p.toNat, by omega⟩
          rw [allow_at] at MK
          by_cases a1 : pk < 64
          · have a1' : (pk : Int) < 64 := by omega
            have HB := bit_may km pk u2 a1
            generalize may km pk = b at *
            clear ME RE HP HD hI hb
            cases b <;> cases kr <;> by_cases a2 : 0 < kw <;> by_cases a3 : t < f <;> by_cases a4 : kw < f - t
            all_goals first
              | (exfalso; omega)
              | (try have e3 : IntKind.u64.wrap (f - t) = f - t := by rw [IntKind.wrap_u64]; omega
                 have N1 := Lib.hid (HF.out mk _ (by simp) hba)
                 simp only [a2, a3, a4, decide_true, decide_false, Bool.not_true, Bool.not_false, Bool.and_true, Bool.and_false, Bool.true_and, Bool.false_and] at MK
                 subst MK
                 clear HF
                 go_wp2_with fail
                 go_roundg (gk - 1)
                 case measure => omega
                 case rel => exact N1.out)
          · have a1' : ¬ (pk : Int) < 64 := by omega
            have e : may km pk = false := by unfold may; rw [decide_eq_false a1]; rfl
            rw [e] at MK
            simp only [Bool.false_and] at MK
            subst MK
            have N1 := Lib.hid (HF.out false _ (by simp) hba)
            clear HF ME RE HP HD hI hb
            go_wp2_with fail
            go_roundg (gk - 1)
            case measure => omega
            case rel => exact N1.out
        · have e : allow km p = false := by unfold allow; rw [decide_eq_false a0]; rfl
          rw [e] at MK
          simp only [Bool.false_and] at MK
          subst MK
          have N1 := Lib.hid (HF.out false _ (by simp) hba)
          clear HF ME RE HP HD hI hb
          go_wp2_with fail
          go_roundg (gk - 1)
          case measure => omega
          case rel => exact N1.out
      · have N1 := Lib.hid (HF.out true _ (by simp) hba)
        clear HF ME RE HP HD hI hb
        go_wp2_with fail
        go_roundg (gk - 1)
        case measure => omega
        case rel => exact N1.out
    · have h3 : ¬ (k : Int) < l := by omega
      obtain rfl : k = l := by omega
      rw [HD.out]
      rcases RE.out with hR | ⟨q, hR, hq, hmq⟩
      · have e : fd = false := by rw [← HD.out, hR]; rfl
        subst e
        go_wp2_with fail
        go_ret
        exact yes_of rfl (fresh_trans hg hb)
      · have e : fd = true := by rw [← HD.out, hR, fnd_nat]
        have e2 : pl = q := by rw [← HP.out, hR, plc_nat]
        subst e e2
        obtain ⟨b1, o1, rfl, hb1, x0, x1, x2, x3⟩ := hI.out.lies.fresh hb q hq
        obtain ⟨_, _, _, _, u2⟩ := hI.out.nums q hq
        have MK := (mayc_iff.1 hmq)
        obtain ⟨m1, m2, _, _⟩ := MK
        clear ME RE HP HD hmq hR
        generalize C q = cq at *
        obtain ⟨qi, qw, qm, qr⟩ := cq
        simp only at x0 x1 x2 x3 u2 m1 m2
        subst m2
        have a0 : 0 ≤ p := by
          by_cases a : 0 ≤ p
          · exact a
          · unfold allow at m1; rw [decide_eq_false a] at m1; cases m1
        obtain ⟨pk, rfl⟩ : ∃ pk : Nat, p = pk := ⟨p.toNat, by omega⟩
        rw [allow_at] at m1
        have a1 : pk < 64 := by
          by_cases a : pk < 64
          · exact a
          · unfold may at m1; rw [decide_eq_false a] at m1; cases m1
        have HB := bit_may qm pk u2 a1
        rw [m1] at HB
        have a1' : (pk : Int) < 64 := by omega
        have q0 : (0 : Int) ≤ q := by omega
        have q1 : (q : Int) < k := by omega
        go_wp2_with fail
        go_ret
        exact yes_of (by simp) (fresh_trans hg hb)
end Go.Proofs.Ytjbhighfajdfhaa.Pull
