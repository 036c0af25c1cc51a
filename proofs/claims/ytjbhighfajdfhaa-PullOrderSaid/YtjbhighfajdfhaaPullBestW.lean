/- The walk of PullBest. Conditions: each argument is a number of its kind; a slice has room for what it holds. -/
import Derived.Test.YtjbhighfajdfhaaPullLaws
namespace Go.Proofs.Ytjbhighfajdfhaa.Pull
open Go.ChangeShapes Go.WideShapes Go.ChangeAt Go.RowKit Load
set_option linter.unusedVariables false
set_option linter.unusedSimpArgs false
attribute [local irreducible] Go.wpQuiet

/-- None that may leaves the loads nearer. -/
theorem best_near {C : Nat → Cd} {f t p : Int} {l q k : Nat} (hC : ∀ j, j < l → (C j).Ok) (hq : q < l) (hk : k < l) (hR : cho C (gap f t) p l = q) (hm : mayc (C k) (gap f t) p = true) (hc : (C k).wt ≤ (f - t) / 2 ∨ (f - t) / 2 < (C q).wt) (hf : U64 f) (ht : U64 t) :
    ¬ dif (gap f (C k).wt) (top t (C k).wt) < dif (gap f (C q).wt) (top t (C q).wt) := by
  rcases pick_best (fun j => mayc (C j) (gap f t) p) (fun j => key (gap f t / 2) (C j)) l with ⟨e, _⟩ | ⟨r, e, hr, hS, hb⟩
  · unfold cho at hR; rw [hR] at e; omega
  · have : cho C (gap f t) p l = r := e
    obtain rfl : q = r := by rw [hR] at this; omega
    have hkk := hb k hk hm
    obtain ⟨a1, a2, a3, a4⟩ := gap_may hS
    obtain ⟨b1, b2, b3, b4⟩ := gap_may hm
    obtain ⟨c1, c2, c3, c4, _⟩ := hC q hq
    obtain ⟨d1, d2, d3, d4, _⟩ := hC k hk
    unfold U64 at hf ht
    simp only at hkk
    rw [a2] at hkk
    unfold key at hkk
    generalize (C q).wt = x at *
    generalize (C k).wt = y at *
    generalize (C q).id = i at *
    generalize (C k).id = j at *
    have ea : gap f x = f - x := by unfold gap; rw [if_neg (by omega)]
    have eb : top t x = t + x := by unfold top; omega
    have ec : gap f y = f - y := by unfold gap; rw [if_neg (by omega)]
    have ed : top t y = t + y := by unfold top; omega
    rw [ea, eb, ec, ed]
    clear hb hS hm hR e this ea eb ec ed a2 b2 hC
    unfold dif
    by_cases hx : x ≤ (f - t) / 2 <;> by_cases hy : y ≤ (f - t) / 2
    · rw [if_pos hx, if_pos hy] at hkk; omega
    · omega
    · rw [if_neg hx, if_pos hy] at hkk; omega
    · rw [if_neg hx, if_neg hy] at hkk; omega

def BestI (n : Nat) (w : World) (left : Nat) (t16 : Value) (wr : World) : Prop := ∃ k : Nat, left + k = n ∧ t16 = .int .i64 k ∧ Below w.heap.size w wr

set_option maxRecDepth 100000 in
set_option maxHeartbeats 4000000 in
theorem bestLaw (v : Option Addr) (n cap : Nat) (C : Nat → Cd) (f t p : Int) (w : World) (hf : U64 f) (ht : U64 t) (hn : n ≤ 9223372036854775807) (h : In v n cap C w) :
    Calls Try.prog 6 #[.slice v n cap, .int .u64 f, .int .u64 t, .int .i64 p] w (Yes w) := by
  have S := Lib.hid (fun w => shown w)
  have hI := Lib.hid h
  have FW := Lib.hid (fun w (h : In v n cap C w) => few' v n cap C w hn h)
  have IL : Hid (∀ w, In v n cap C w → In v (min n 100) cap C w) := Lib.hid fun w h => h.less (by omega)
  have hk : min n 100 ≤ 100 := by omega
  have hln : min n 100 ≤ n := by omega
  generalize min n 100 = l at *
  have CH := Lib.hid (fun w (h : In v l cap C w) => choose' v l cap C f t p w hf ht hk h)
  have hg := Below.refl w.heap.size w
  rcases cho_end C (gap f t) p l with hR | ⟨q, hR, hq, hm⟩
  · clear h
    rw [hR] at CH
    unfold Two plc fnd at CH
    simp only at CH
    go_enter Try.func6, Try.ntmps6
    go_wp2_with (first
      | (go_at_call 9; refine (S.out _).mono ?_; rintro e w' ⟨rfl, hg1⟩; replace hI := Lib.hid (hI.out.fresh hg1); replace hg := fresh_trans hg hg1; clear hg1)
      | (go_at_call 10; refine (FW.out _ hI.out).mono ?_; rintro e w1 ⟨rfl, hw⟩; replace hw := hw.symm; subst hw; replace hI := Lib.hid (IL.out _ hI.out))
      | (go_at_call 11; refine (CH.out _ hI.out).mono ?_; rintro e w2 ⟨rfl, hg1⟩; replace hI := Lib.hid (hI.out.fresh hg1); replace hg := fresh_trans hg hg1; clear hg1)
      | (go_at_call 14; refine (AF.out _).mono ?_; rintro e w3 ⟨rfl, hg1⟩; replace hI := Lib.hid (hI.out.fresh hg1); replace hg := fresh_trans hg hg1; clear hg1))
    go_ret
    exact yes_of rfl hg
  · obtain ⟨g1, g2, g3, g4⟩ := gap_may hm
    have BN := Lib.hid (fun k hk hm hc => best_near (C := C) (f := f) (t := t) (p := p) (l := l) (q := q) (k := k) (fun j hj => h.nums j (by omega)) hq hk hR hm hc hf ht)
    rw [hR] at CH
    unfold Two at CH
    rw [plc_nat, fnd_nat] at CH
    have hqn : q < n := by omega
    obtain ⟨_, _, o2, o3, _⟩ := h.nums q hqn
    obtain ⟨b1, o1, rfl, _⟩ := h.lies q hqn
    have XL : Hid (∀ w', In (some ⟨b1, o1, none⟩) l cap C w' → w'.cell? ⟨b1, o1 + q * 4 + 1, none⟩ = some (.int .u64 (C q).wt)) := Lib.hid fun w' h => by
      obtain ⟨b2, o2, e, _, _, x1, _⟩ := h.lies q hq
      cases e; exact x1
    clear h
    have q0 : (0 : Int) ≤ q := by omega
    have q1 : (q : Int) < l := by omega
    have AF := Lib.hid (fun w => after f t (C q).wt w hf ht ⟨o2, o3⟩)
    have AG := Lib.hid (fun k hk w => after f t (C k).wt w hf ht hk)
    have AU := Lib.hid (fun k (hx : U64 (C k).wt) => gap_bd hf hx)
    have TU : Hid (∀ k, U64 (C k).wt → U64 (top t (C k).wt)) := Lib.hid fun k hx => by unfold U64 top at *; omega
    have UQ : U64 (gap f (C q).wt) ∧ U64 (top t (C q).wt) := ⟨AU.out q ⟨o2, o3⟩, TU.out q ⟨o2, o3⟩⟩
    have D2 := Lib.hid (fun w => diffs (gap f (C q).wt) (top t (C q).wt) w UQ.1 UQ.2)
    generalize dif (gap f (C q).wt) (top t (C q).wt) = d2 at *
    generalize gap f (C q).wt = a at *
    generalize top t (C q).wt = b at *
    generalize (C q).wt = x at *
    rw [g2] at BN
    obtain ⟨f0, f1⟩ := hf
    obtain ⟨t0, t1⟩ := ht
    have MY : Hid (∀ k, k < l → ∀ w, (C k).Ok → Calls Try.prog 16 #[.agg #[.int .i64 (C k).id, .int .u64 (C k).wt, .int .u64 ((C k).ms : Int), .bool (C k).rn], .int .u64 (f - t), .int .i64 p] w (IsG (.bool (mayc (C k) (f - t) p)) w)) := Lib.hid fun k _ w h => mays (C k) (f - t) p w h
    have n1 : ¬ f ≤ t := by omega
    have n2 : ¬ (q : Int) < 0 := by omega
    have n3 : ¬ (l : Int) ≤ q := by omega
    have e3 : IntKind.u64.wrap (f - t) = f - t := by rw [IntKind.wrap_u64]; omega
    have e4 : (f - t).tdiv 2 = (f - t) / 2 := Int.tdiv_eq_ediv_of_nonneg (by omega)
    clear AU UQ hR hm g2
    go_enter Try.func6, Try.ntmps6
    go_wp2_with (first
      | (go_at_call 9; refine (S.out _).mono ?_; rintro e w' ⟨rfl, hg1⟩; replace hI := Lib.hid (hI.out.fresh hg1); replace hg := fresh_trans hg hg1; clear hg1)
      | (go_at_call 10; refine (FW.out _ hI.out).mono ?_; rintro e w1 ⟨rfl, hw⟩; replace hw := hw.symm; subst hw; replace hI := Lib.hid (IL.out _ hI.out))
      | (go_at_call 11; refine (CH.out _ hI.out).mono ?_; rintro e w2 ⟨rfl, hg1⟩; replace hI := Lib.hid (hI.out.fresh hg1); replace hg := fresh_trans hg hg1; clear hg1; have x1 := XL.out _ hI.out)
      | (go_at_call 14; refine (AF.out _).mono ?_; rintro e w3 ⟨rfl, hg1⟩; replace hI := Lib.hid (hI.out.fresh hg1); replace hg := fresh_trans hg hg1; clear hg1))
    clear S FW IL CH AF x1
    go_loopg [16] l (fun left t16 wr => BestI l w3 left t16 wr)
    case atStart => exact ⟨0, by omega, rfl, Below.refl _ _⟩
    case round =>
      obtain ⟨k, hk', rfl, hb⟩ := hrel
      by_cases hlt : k < l
      · have h3 : (k : Int) < l := by omega
        have k0 : (0 : Int) ≤ k := by omega
        have hO := hI.out.nums k hlt
        obtain ⟨b2, o2, e, hb1, x0, x1, x2, x3⟩ := hI.out.lies.fresh hb k hlt
        cases e
        have XK : Hid (∀ w', Below w3.heap.size w3 w' → w'.cell? ⟨b1, o1 + k * 4 + 1, none⟩ = some (.int .u64 (C k).wt)) := Lib.hid fun w' hb => by
          obtain ⟨b2, o2, e, _, _, x1, _⟩ := hI.out.lies.fresh hb k hlt
          cases e; exact x1
        have XQ : Hid (∀ w', Below w3.heap.size w3 w' → w'.cell? ⟨b1, o1 + q * 4 + 1, none⟩ = some (.int .u64 x)) := Lib.hid fun w' hb => XL.out _ (hI.out.fresh hb)
        have MK := Lib.hid (fun w => MY.out k hlt w hO)
        have AK := Lib.hid (fun w => AG.out k ⟨hO.wt0, hO.wt1⟩ w)
        have HF : Hid (∀ wx, Below w3.heap.size w3 wx → BestI l w3 (gk - 1) (.int .i64 ((k : Int) + 1)) wx) := Lib.hid fun wx h => ⟨k + 1, by omega, by go_num, h⟩
        cases hm : mayc (C k) (f - t) p
        · rw [hm] at MK
          go_wp2_with (go_at_call 16; refine (MK.out _).mono ?_; rintro e w4 ⟨rfl, hg1⟩; replace hb := hb.trans (hg1.mono hb.size); clear hg1)
          go_roundg (gk - 1)
          case measure => omega
          case rel => exact HF.out _ hb
        · rw [hm] at MK
          have DK : Hid (∀ w, Calls Try.prog 18 #[.int .u64 (gap f (C k).wt), .int .u64 (top t (C k).wt)] w (Is (.int .u64 (dif (gap f (C k).wt) (top t (C k).wt))) w)) := Lib.hid fun w => diffs _ _ w (gap_bd ⟨f0, f1⟩ ⟨hO.wt0, hO.wt1⟩) (TU.out k ⟨hO.wt0, hO.wt1⟩)
          have BK := Lib.hid (BN.out k hlt hm)
          generalize dif (gap f (C k).wt) (top t (C k).wt) = d1 at *
          generalize gap f (C k).wt = c at *
          generalize top t (C k).wt = d at *
          generalize (C k).wt = y at *
          clear BN hm hI hO TU AG MY XL
          by_cases s1 : y ≤ (f - t) / 2
          · have nd := BK.out (.inl s1)
            go_wp2_with (first
              | (go_at_call 16; refine (MK.out _).mono ?_; rintro e w4 ⟨rfl, hg1⟩; replace hb := hb.trans (hg1.mono hb.size); have y1 := XK.out _ hb; clear hg1)
              | (go_at_call 14; refine (AK.out _).mono ?_; rintro e w5 ⟨rfl, hg1⟩; replace hb := hb.trans (hg1.mono hb.size); have y2 := XK.out _ hb; have y3 := XQ.out _ hb; clear hg1)
              | (go_at_call 18; first | ((with_reducible refine (DK.out _).mono ?_); rintro e w6 ⟨rfl, hw⟩; replace hw := hw.symm; subst hw) | ((with_reducible refine (D2.out _).mono ?_); rintro e w7 ⟨rfl, hw⟩; replace hw := hw.symm; subst hw)))
            go_roundg (gk - 1)
            case measure => omega
            case rel => exact HF.out _ hb
          · by_cases s2 : (f - t) / 2 < x
            · have nd := BK.out (.inr s2)
              go_wp2_with (first
                | (go_at_call 16; refine (MK.out _).mono ?_; rintro e w4 ⟨rfl, hg1⟩; replace hb := hb.trans (hg1.mono hb.size); have y1 := XK.out _ hb; clear hg1)
                | (go_at_call 14; refine (AK.out _).mono ?_; rintro e w5 ⟨rfl, hg1⟩; replace hb := hb.trans (hg1.mono hb.size); have y2 := XK.out _ hb; have y3 := XQ.out _ hb; clear hg1)
                | (go_at_call 18; first | ((with_reducible refine (DK.out _).mono ?_); rintro e w6 ⟨rfl, hw⟩; replace hw := hw.symm; subst hw) | ((with_reducible refine (D2.out _).mono ?_); rintro e w7 ⟨rfl, hw⟩; replace hw := hw.symm; subst hw)))
              go_roundg (gk - 1)
              case measure => omega
              case rel => exact HF.out _ hb
            · go_wp2_with (first
                | (go_at_call 16; refine (MK.out _).mono ?_; rintro e w4 ⟨rfl, hg1⟩; replace hb := hb.trans (hg1.mono hb.size); have y1 := XK.out _ hb; clear hg1)
                | (go_at_call 14; refine (AK.out _).mono ?_; rintro e w5 ⟨rfl, hg1⟩; replace hb := hb.trans (hg1.mono hb.size); have y2 := XK.out _ hb; have y3 := XQ.out _ hb; clear hg1))
              go_roundg (gk - 1)
              case measure => omega
              case rel => exact HF.out _ hb
      · have h3 : ¬ (k : Int) < l := by omega
        go_wp2_with fail
        go_ret
        exact yes_of rfl (fresh_trans hg hb)
end Go.Proofs.Ytjbhighfajdfhaa.Pull
