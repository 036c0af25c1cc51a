/- What the document's Has, List, Only and Ints tell of a set. Conditions: the set is a word. -/
import Derived.Test.YtmeojplfphmpnaaDoorMaskList
import Derived.Test.YtmeojplfphmpnaaDoorMaskRefN
import Derived.Test.YtmeojplfphmpnaaDoorMaskPartsW
namespace Go.Proofs.YtmeojplfphmpnaaDoor.Mask
open Go.ChangeShapes Go.WideShapes Go.ChangeAt Go.RowKit
set_option linter.unusedVariables false
set_option linter.unusedSimpArgs false
set_option maxRecDepth 100000

theorem has_hi (m : Nat) (hm : m < 18446744073709551616) (i : Nat) (h : 64 ≤ i) : m.testBit i = false :=
  Nat.testBit_lt_two_pow (Nat.lt_of_lt_of_le (show m < 2 ^ 64 from hm) (Nat.pow_le_pow_right (by decide) h))

theorem docHas (m : Nat) (p : Int) (hm : m < 18446744073709551616) (w : World) : Calls Tryd.prog 19 #[.int .u64 m, .int .i64 p] w (IsB (has' m p) w) := by
  go_enter Tryd.func19, Tryd.ntmps19
  go_wp2
  go_loop [0, 5] (fun x i => ∃ (k y : Nat), k ≤ 64 ∧ ((k : Int) ≤ p ∨ k = 0) ∧ i = .int .i64 k ∧ x = .int .u64 y ∧ y < 18446744073709551616 ∧ Hid (y = m / 2 ^ k)) (fun _ i => match i with | .int _ z => 64 - z.toNat | _ => 0)
  case atStart => exact ⟨0, m, by omega, .inr rfl, rfl, rfl, hm, Lib.hid (by simp)⟩
  case round =>
    obtain ⟨k, y, hk, hkp, rfl, rfl, hy, hY⟩ := hrel
    by_cases h1 : (k : Int) < p
    · by_cases h2 : k < 64
      · have h2' : (k : Int) < 64 := by omega
        go_wp2_with fail
        refine ⟨⟨k + 1, y / 2, by omega, .inl (by omega), by simp, by simp, by omega, Lib.hid ?_⟩, by simp; omega⟩
        rw [hY.out, Nat.pow_succ, Nat.div_div_eq_div_mul]
      · obtain rfl : k = 64 := by omega
        have e : has' m p = false := by
          unfold has'
          rw [has_hi m hm _ (by omega)]
          simp
        have hp1 : ¬ p < 64 := by omega
        have hp0 : 0 ≤ p := by omega
        have E := Lib.hid e
        clear e
        go_wp2_with fail
        go_ret
        exact ⟨by rw [E.out]; rfl, rfl⟩
    · by_cases h0 : 0 ≤ p
      · have hkp' : p = (k : Int) := by omega
        subst hkp'
        by_cases h2 : k < 64
        · have e : has' m (k : Int) = (((y : Int) % 2) == 1) := by
            unfold has'
            rw [show (k : Int).toNat = k by omega, Nat.testBit_eq_decide_div_mod_eq, ← hY.out]
            rcases Nat.mod_two_eq_zero_or_one y with h | h
            · simp [h]; omega
            · simp [h]; omega
          have E := Lib.hid e
          have h2' : (k : Int) < 64 := by omega
          clear e
          go_wp2_with fail
          go_ret
          exact ⟨by rw [E.out]; rfl, rfl⟩
        · have e : has' m (k : Int) = false := by
            unfold has'
            rw [has_hi m hm _ (by omega)]
            simp
          have h2' : ¬ (k : Int) < 64 := by omega
          have E := Lib.hid e
          clear e
          go_wp2_with fail
          go_ret
          exact ⟨by rw [E.out]; rfl, rfl⟩
      · have e : has' m p = false := by simp [has', h0]
        have E := Lib.hid e
        clear e
        go_wp2_with fail
        go_ret
        exact ⟨by rw [E.out]; rfl, rfl⟩

def IsRow (l : List Nat) (w : World) (e : Ending) (w' : World) : Prop := ∃ v, e = .returned v ∧ OutI w.heap.size v l w' ∧ Below w.heap.size w w'

theorem docList (m : Nat) (hm : m < 18446744073709551616) (w : World) : Calls Tryd.prog 13 #[.int .u64 m] w (IsRow (lst m) w) := by
  obtain ⟨i0, hi, hz0, hz1, hz2⟩ := info_parts infoI64
  have HS := Lib.hid (fun (k : Nat) (w : World) => docHas m k hm w)
  go_enter Tryd.func13, Tryd.ntmps13
  go_wp2
  go_loopw [3, 4] (fun v p wr => ∃ (k : Nat) (out : List Nat), k ≤ 64 ∧ p = .int .i64 k ∧ OutI w.heap.size v out wr ∧ out = (List.range k).filter m.testBit ∧ Below w.heap.size w wr) (fun _ p _ => match p with | .int _ z => 64 - z.toNat | _ => 0)
  case atStart => exact ⟨0, [], by omega, rfl, ⟨rfl, .inl ⟨rfl, rfl⟩⟩, rfl, Below.refl _ _⟩
  case round =>
    obtain ⟨k, out, hk, rfl, hout, hol, hb⟩ := hrel
    by_cases hlt : k < 64
    · have hB : w.heap.size ≤ wr.heap.size := hb.size
      have hlen : out.length ≤ 64 := by
        rw [hol]
        have := List.length_filter_le m.testBit (List.range k)
        simp at this
        omega
      have hlt' : (k : Int) < 64 := by omega
      have ehas : has' m (k : Int) = m.testBit k := by simp [has']
      have H := HS.out k wr
      rw [ehas] at H
      have hb' := Lib.hid hb
      cases hbk : m.testBit k with
      | true =>
        have e : (List.range (k + 1)).filter m.testBit = out ++ [k] := by rw [List.range_succ, List.filter_append, hol]; simp [hbk]
        have E := Lib.hid e
        rw [hbk] at H
        have H' := Lib.hid H
        clear e H hol hb
        go_wp2_with (first
          | (go_at_call 19; refine H'.out.mono ?_; rintro e w1 ⟨rfl, hw⟩; replace hw := hw.symm; subst hw)
          | (at_builtin; refine wpList_append_own _ rfl _ _ 30 rfl w.heap.size 3 i0 (.int .i64 0) 1 8 Tryd.underlying30 hi hz0 hz1 hz2 rfl (by decide) _ _ _ rfl (hout.alloc _) ⟨wr.heap.size, 0, none⟩ 1 1 [.int .i64 (k : Int)] rfl rfl (cell_one_new _ _ _) (by simp [Value.oneCell']) (by unfold maxLen; omega) (by omega) (by show w.heap.size ≤ (wr.heap.push _).size; rw [Array.size_push]; omega) ?_; intro v2 w2 hown' hgrow _; obtain ⟨ho2, qw2⟩ := appNum (n := k) hout hB hown' _ hgrow; clear hown' hgrow))
        exact ⟨⟨k + 1, out ++ [k], by omega, by simp, ho2, E.out.symm, hb'.out.trans qw2⟩, by simp; omega⟩
      | false =>
        have e : (List.range (k + 1)).filter m.testBit = out := by rw [List.range_succ, List.filter_append, hol]; simp [hbk]
        have E := Lib.hid e
        rw [hbk] at H
        have H' := Lib.hid H
        clear e H hol hb
        go_wp2_with (go_at_call 19; refine H'.out.mono ?_; rintro e w1 ⟨rfl, hw⟩; replace hw := hw.symm; subst hw)
        exact ⟨⟨k + 1, out, by omega, by simp, hout, E.out.symm, hb'.out⟩, by simp; omega⟩
    · obtain rfl : k = 64 := by omega
      have hol' : out = lst m := hol
      subst hol'
      clear hol
      go_wp2_with fail
      go_ret
      exact ⟨_, rfl, hout, hb⟩

theorem docOnly (m : Nat) (n : Int) (hm : m < 18446744073709551616) (hn : -9223372036854775808 ≤ n ∧ n ≤ 9223372036854775807) (w : World) : Calls Tryd.prog 21 #[.int .u64 m, .int .i64 n] w (IsU (onl m n) w) := by
  by_cases h : n < 1
  · have e : onl m n = 0 := by
      unfold onl
      rw [show min n.toNat 64 = 0 by omega]
      simp [Nat.mod_one]
    rw [e]
    go_enter Tryd.func21, Tryd.ntmps21
    go_wp2
    go_ret
    exact ⟨rfl, rfl⟩
  · have S0 := Lib.hid (fun w => Set 0 (n - 1) w)
    have hs : sn 0 (n - 1) 64 < 18446744073709551616 := sn64 _ _
    have hb : ∀ (k i : Nat), k ≤ 64 → (sn 0 (n - 1) k).testBit i = (decide (i < k) && decide ((i : Int) ≤ n - 1)) := by
      intro k
      induction k with
      | zero => intro i _; simp [sn]
      | succ k ih =>
        intro i hk
        have hlt := sn_lt 0 (n - 1) k
        by_cases hc : (k : Int) ≤ n - 1
        · have e : sn 0 (n - 1) (k + 1) = 2 ^ k * 1 + sn 0 (n - 1) k := by
            show sn 0 (n - 1) k + (if (0 : Int) ≤ (k : Int) ∧ (k : Int) ≤ n - 1 then 2 ^ k else 0) = _
            rw [if_pos ⟨by omega, hc⟩]
            omega
          rw [e, Nat.testBit_two_pow_mul_add 1 hlt]
          by_cases hik : i < k
          · rw [if_pos hik, ih i (by omega)]
            simp [hik, show i < k + 1 by omega]
          · rw [if_neg hik]
            by_cases hie : i = k
            · subst hie
              simp [hc]
            · have : ¬ i < k + 1 := by omega
              obtain ⟨j, hj⟩ : ∃ j, i - k = j + 1 := ⟨i - k - 1, by omega⟩
              rw [hj, Nat.testBit_succ]
              simp [this]
        · have e : sn 0 (n - 1) (k + 1) = sn 0 (n - 1) k := by
            show sn 0 (n - 1) k + (if (0 : Int) ≤ (k : Int) ∧ (k : Int) ≤ n - 1 then 2 ^ k else 0) = _
            rw [if_neg (fun h => hc h.2)]
            rfl
          rw [e, ih i (by omega)]
          by_cases hik : i < k
          · simp [hik, show i < k + 1 by omega]
          · simp [hik]
            intro h1
            omega
    have ea : bits .and .u64 (m : Int) (sn 0 (n - 1) 64 : Int) = (onl m n : Int) := by
      rw [bits_and_u64_nat _ _ hm hs]
      congr 1
      apply Nat.eq_of_testBit_eq
      intro i
      rw [Nat.testBit_and, hb 64 i (Nat.le_refl _), onl_bit]
      by_cases h1 : i < 64
      · by_cases h2 : (i : Int) ≤ n - 1
        · simp [h1, h2, show i < min n.toNat 64 by omega]
        · simp [h1, h2, show ¬ i < min n.toNat 64 by omega]
      · simp [h1, show ¬ i < min n.toNat 64 by omega]
    obtain ⟨hn1, hn2⟩ := hn
    generalize sn 0 (n - 1) 64 = S at *
    generalize onl m n = o at *
    clear hb
    go_enter Tryd.func21, Tryd.ntmps21
    go_wp2_with (go_at_call 34; refine (S0.out _).mono ?_; rintro e w1 ⟨rfl, rfl⟩)
    go_ret
    exact ⟨congrArg (fun z => Ending.returned (.int .u64 z)) (by first | exact ea | rfl), rfl⟩
/-- Two rows of the same numbers; the second one may be nil. -/
theorem ints (g1 cap1 : Nat) (v : Value) (l : List Nat) (w : World) (B : Nat) (H1 : Lies g1 l w) (H2 : OutI B v l w) (hl : l.length ≤ 64) : Calls Tryd.prog 16 #[.slice (some ⟨g1, 0, none⟩) l.length cap1, v] w (fun e w' => e = .returned (.bool true) ∧ Below w.heap.size w w') := by
  have K : (v = .slice none 0 0 ∧ l = []) ∨ ∃ g2 cap2, v = .slice (some ⟨g2, 0, none⟩) l.length cap2 ∧ Lies g2 l w := by
    by_cases h : l = []
    · subst h
      obtain ⟨h1, ⟨h2, h3⟩ | ⟨g, cap, cur, h2, _⟩⟩ := H2
      · exact .inl ⟨h2, rfl⟩
      · subst h2
        exact .inr ⟨g, cap, rfl, OutI.lies (B := B) (l := []) (n := 0) (cap := cap) ⟨h1, .inr ⟨g, cap, cur, rfl, by assumption⟩⟩⟩
    · obtain ⟨g, cap, rfl⟩ := H2.shape h
      exact .inr ⟨g, cap, rfl, H2.lies⟩
  clear H2
  rcases K with ⟨rfl, rfl⟩ | ⟨g2, cap2, rfl, H2⟩
  · go_enter Tryd.func16, Tryd.ntmps16
    go_wp2_with fail
    go_loop [5] (fun i => i = .int .i64 0) (fun i => 0)
    case atStart => rfl
    case round =>
      subst hrel
      go_wp2_with fail
      go_ret
      exact ⟨rfl, Below.refl _ _⟩
  · generalize hn : l.length = n at *
    go_enter Tryd.func16, Tryd.ntmps16
    go_wp2_with fail
    go_loopw [5] (fun i wr => ∃ k : Nat, k ≤ n ∧ i = .int .i64 k ∧ Lies g1 l wr ∧ Lies g2 l wr ∧ Below w.heap.size w wr) (fun i _ => match i with | .int _ m => n - m.toNat | _ => 0)
    case atStart => exact ⟨0, Nat.zero_le _, rfl, H1, H2, Below.refl _ _⟩
    case round =>
      obtain ⟨k, hk, rfl, L1, L2, hb⟩ := hrel
      by_cases hlt : k < n
      · obtain ⟨x, hx⟩ : ∃ x, l[k]? = some x := ⟨_, List.getElem?_eq_getElem (by omega)⟩
        have c1 := L1.2 k x hx
        have c2 := L2.2 k x hx
        have hlt' : (k : Int) < (n : Int) := by omega
        have Q := Lib.hid (And.intro L1 (And.intro L2 hb))
        clear hx L1 L2 hb H1 H2
        go_wp2_with fail
        go_quiet (fail)
        go_wp2_with fail
        obtain ⟨L1, L2, hb⟩ := Q.out
        have hd : Below wr.heap.size wr (wr.drewN nq) := ⟨rfl, rfl, rfl, Nat.le_refl _, fun _ _ => rfl⟩
        exact ⟨⟨k + 1, by omega, by simp, L1.fresh hd, L2.fresh hd, hb.trans (hd.mono hb.size)⟩, by simp; omega⟩
      · have hlt' : ¬ (k : Int) < (n : Int) := by omega
        have hb' := Lib.hid hb
        clear H1 H2 L1 L2 hb
        go_wp2_with fail
        go_ret
        exact ⟨rfl, hb'.out⟩
end Go.Proofs.YtmeojplfphmpnaaDoor.Mask
