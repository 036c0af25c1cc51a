/- The walk of StateJoins. Conditions: the rows are not too long for a machine. -/
import Derived.Test.YtmcfmkganljbmaaDoorStateDeadX
namespace Go.Proofs.YtmcfmkganljbmaaDoor.State
open Go.ChangeShapes Go.WideShapes Go.ChangeAt Go.RowKit
set_option linter.unusedVariables false
set_option linter.unusedSimpArgs false
set_option maxRecDepth 100000

def JnI (z : Nat → Int) (n m : Nat) (w : World) (lf : Nat) (t u : Value) (wr : World) : Prop :=
  ∃ k : Nat, k ≤ m ∧ lf = m - k ∧ t = .int .i64 (script z (n + k)).1 ∧ u = .int .i64 k ∧ (script z (n + k)).2.2 = 0 ∧ Below w.heap.size w wr
set_option maxHeartbeats 4000000 in
theorem joins_no (v y : Option Addr) (n m cap cp : Nat) (z zy : Nat → Int) (k e : Int) (w : World) (hn : n ≤ 1048576) (hm : m ≤ 1048576) (S : Hid (Calls Tryd.prog 6 #[] w (Yes w)))
    (R1 : Hid (∀ w', Below w.heap.size w w' → Calls Tryd.prog 7 #[.slice v n cap] w' (RunsTo 0 k e w')))
    (R2 : Hid (∀ w' g c, Below w.heap.size w w' → w'.ownsRow w.heap.size 3 1 (.slice (some ⟨g, 0, none⟩) (n + m) c) (n + m) (us (both z n zy) (n + m)) → Calls Tryd.prog 7 #[.slice (some ⟨g, 0, none⟩) (n + m) c] w' (RunsTo 0 k e w')))
    (HN : Hid (v = none → n = 0 ∧ cap = 0)) (HM : Hid (y = none → m = 0 ∧ cp = 0)) (CC : Hid (∀ w', Below w.heap.size w w' → Lies v n z w')) (CY : Hid (∀ w', Below w.heap.size w w' → Lies y m zy w'))
    (h1 : (e == 0) = false) (h2 : (e != 0) = true) :
    Calls Tryd.prog 4 #[.slice v n cap, .slice y m cp] w (Yes w) := by
  have hg := Below.refl w.heap.size w
  obtain ⟨i0, hi, hz0, hz1, hz2⟩ := info_parts infoL
  unfold RunsTo at R1 R2
  go_enter Tryd.func4, Tryd.ntmps4
  go_wp2_with (first
    | (go_at_call 6; refine S.out.mono ?_; rintro e w1 ⟨rfl, hg1⟩; replace hg := fresh_trans hg hg1; clear hg1)
    | (go_at_call 7; (with_reducible refine (R1.out _ hg).mono ?_); rintro e w2 ⟨rfl, hg1⟩; replace hg := fresh_trans hg hg1; clear hg1)
    | (at_builtin; refine wpList_append_in _ rfl (.tmp 24) (.tmp 25) 22 rfl w.heap.size 3 i0 _ 8 Tryd.underlying22 hi hz0 hz1 hz2 rfl w2.heap.size 0 0 [] rfl (made rfl hg.size) v n cap (us z n) rfl (us_length z n) HN.out (CC.out _ (hg.alloc hg.size _)).src (us_one z n) (by simp only [maxLen]; omega) (by omega) (by have := hg.size; (try simp); omega) (w2.heap.size + 1) (by simp) ?_; intro g1 c1 w3 own1 grow1 at1; simp only [Nat.zero_add, List.nil_append] at own1 ⊢; replace hg := (hg.alloc hg.size _).grown grow1 (by have := hg.size; (try simp); omega) (by intro k hk; have := hg.size; (try simp at hk); omega); clear grow1)
    | (at_builtin; refine wpList_append_in _ rfl (.tmp 26) (.tmp 27) 22 rfl w.heap.size 3 i0 _ 8 Tryd.underlying22 hi hz0 hz1 hz2 rfl g1 n c1 _ rfl own1 y m cp (us zy m) rfl (us_length zy m) HM.out (CY.out _ hg).src (us_one zy m) (by simp only [maxLen]; omega) (by omega) hg.size w3.heap.size rfl ?_; intro g4 c4 w7 own4 grow4 at4; rw [us_both] at own4; replace hg := hg.grown grow4 hg.size (by intro k hk; have := (own1.lt g1 rfl).1; (try simp at hk); omega); clear grow4)
    | (go_at_call 7; (with_reducible refine (R2.out _ _ _ hg own4).mono ?_); rintro e w8 ⟨rfl, hg1⟩; replace hg := fresh_trans hg hg1; clear hg1))
  go_ret
  exact yes_of (by simp) hg

set_option maxHeartbeats 4000000 in
theorem joins_yes (v y : Option Addr) (n m cap cp : Nat) (z zy : Nat → Int) (s t k f : Int) (w : World) (hn : n ≤ 1048576) (hm : m ≤ 1048576) (S : Hid (Calls Tryd.prog 6 #[] w (Yes w)))
    (R1 : Hid (∀ w', Below w.heap.size w w' → Calls Tryd.prog 7 #[.slice v n cap] w' (RunsTo s n 0 w')))
    (R2 : Hid (∀ w' g c, Below w.heap.size w w' → w'.ownsRow w.heap.size 3 1 (.slice (some ⟨g, 0, none⟩) (n + m) c) (n + m) (us (both z n zy) (n + m)) → Calls Tryd.prog 7 #[.slice (some ⟨g, 0, none⟩) (n + m) c] w' (RunsTo t k f w')))
    (NX : Hid (∀ s e w', Below w.heap.size w w' → Calls Tryd.prog 8 #[.int .i64 s, .int .i64 e] w' (IsNext s e w')))
    (HN : Hid (v = none → n = 0 ∧ cap = 0)) (HM : Hid (y = none → m = 0 ∧ cp = 0)) (CC : Hid (∀ w', Below w.heap.size w w' → Lies v n z w')) (CY : Hid (∀ w', Below w.heap.size w w' → Lies y m zy w'))
    (H0 : Hid ((script (both z n zy) n).1 = s ∧ (script (both z n zy) n).2.2 = 0)) (HT : Hid (script (both z n zy) (n + m) = (t, k, f))) :
    Calls Tryd.prog 4 #[.slice v n cap, .slice y m cp] w (Yes w) := by
  have hg := Below.refl w.heap.size w
  obtain ⟨i0, hi, hz0, hz1, hz2⟩ := info_parts infoL
  unfold RunsTo at R1 R2
  go_enter Tryd.func4, Tryd.ntmps4
  go_wp2_with (first
    | (go_at_call 6; refine S.out.mono ?_; rintro e w1 ⟨rfl, hg1⟩; replace hg := fresh_trans hg hg1; clear hg1)
    | (go_at_call 7; (with_reducible refine (R1.out _ hg).mono ?_); rintro e w2 ⟨rfl, hg1⟩; replace hg := fresh_trans hg hg1; clear hg1)
    | (at_builtin; refine wpList_append_in _ rfl (.tmp 24) (.tmp 25) 22 rfl w.heap.size 3 i0 _ 8 Tryd.underlying22 hi hz0 hz1 hz2 rfl w2.heap.size 0 0 [] rfl (made rfl hg.size) v n cap (us z n) rfl (us_length z n) HN.out (CC.out _ (hg.alloc hg.size _)).src (us_one z n) (by simp only [maxLen]; omega) (by omega) (by have := hg.size; (try simp); omega) (w2.heap.size + 1) (by simp) ?_; intro g1 c1 w3 own1 grow1 at1; simp only [Nat.zero_add, List.nil_append] at own1 ⊢; replace hg := (hg.alloc hg.size _).grown grow1 (by have := hg.size; (try simp); omega) (by intro k hk; have := hg.size; (try simp at hk); omega); clear grow1)
    | (at_builtin; refine wpList_append_in _ rfl (.tmp 26) (.tmp 27) 22 rfl w.heap.size 3 i0 _ 8 Tryd.underlying22 hi hz0 hz1 hz2 rfl g1 n c1 _ rfl own1 y m cp (us zy m) rfl (us_length zy m) HM.out (CY.out _ hg).src (us_one zy m) (by simp only [maxLen]; omega) (by omega) hg.size w3.heap.size rfl ?_; intro g4 c4 w7 own4 grow4 at4; rw [us_both] at own4; replace hg := hg.grown grow4 hg.size (by intro k hk; have := (own1.lt g1 rfl).1; (try simp at hk); omega); clear grow4)
    | (go_at_call 7; (with_reducible refine (R2.out _ _ _ hg own4).mono ?_); rintro e w8 ⟨rfl, hg1⟩; replace hg := fresh_trans hg hg1; clear hg1))
  clear S R1 R2 own1 own4 at1 at4 hi hz0 hz1 hz2
  obtain ⟨hs, hs0⟩ := H0.out
  replace hs := Lib.hid hs
  replace hs0 := Lib.hid hs0
  go_loopg [12, 13] m (fun lf t u wr => JnI (both z n zy) n m w lf t u wr)
  case atStart => exact ⟨0, by omega, rfl, by rw [Nat.add_zero, hs.out], rfl, hs0.out, hg⟩
  case round =>
    clear hg hs hs0 H0
    obtain ⟨i, hi, rfl, rfl, rfl, h0, hg⟩ := hrel
    replace h0 := Lib.hid h0
    by_cases hlt : i < m
    · have h1 : (i : Int) < m := by omega
      obtain ⟨b, o, rfl, hb, hcell⟩ := (CY.out _ hg) i hlt
      have hx : both z n zy (n + i) = zy i := by
        unfold both
        rw [if_neg (by omega), Nat.add_sub_cancel_left]
      have N1 := Lib.hid (NX.out (script (both z n zy) (n + i)).1 (zy i) wr hg)
      clear NX CC CY HN HM hb
      unfold IsNext at N1
      by_cases he : errS (script (both z n zy) (n + i)).1 (zy i) = 0
      · have NT := Lib.hid (fun w' (h : Below w.heap.size w w') => (⟨i + 1, by omega, rfl, by rw [← Nat.add_assoc, script_yes h0.out (by rw [hx]; exact he), hx], by go_num, by rw [← Nat.add_assoc, script_yes h0.out (by rw [hx]; exact he)], h⟩ : JnI (both z n zy) n m w (m - (i + 1)) (.int .i64 (toS (script (both z n zy) (n + i)).1 (zy i))) (.int .i64 ((i : Int) + 1)) w'))
        rw [he] at N1
        clear h0 he HT hx
        generalize toS (script (both z n zy) (n + i)).1 (zy i) = a at *
        generalize (script (both z n zy) (n + i)).1 = c at *
        generalize zy i = x at *
        go_wp2_with (go_at_call 8; refine N1.out.mono ?_; rintro e w9 ⟨rfl, hg1⟩; replace hg := fresh_trans hg hg1; clear hg1)
        go_roundg (m - (i + 1))
        case measure => omega
        case rel => exact NT.out _ hg
      · have SE := script_end (z := both z n zy) (k := n + i) (n := n + m) (by omega) h0.out (by rw [hx]; exact he)
        rw [HT.out, hx] at SE
        simp only [Prod.mk.injEq] at SE
        obtain ⟨rfl, hk, hf⟩ := SE
        have he' : (errS (script (both z n zy) (n + i)).1 (zy i) == 0) = false := by simpa using he
        have he2 : (errS (script (both z n zy) (n + i)).1 (zy i) != 0) = true := by simpa using he
        rw [← hf] at N1 he' he2
        rw [Int.natCast_add] at hk
        clear h0 he HT hx hf
        subst hk
        generalize toS (script (both z n zy) (n + i)).1 (zy i) = a at *
        generalize (script (both z n zy) (n + i)).1 = c at *
        generalize zy i = x at *
        go_wp2_with (go_at_call 8; refine N1.out.mono ?_; rintro e w9 ⟨rfl, hg1⟩; replace hg := fresh_trans hg hg1; clear hg1)
        go_ret
        exact yes_of (by simp) hg
    · obtain rfl : i = m := by omega
      have E := (script_ok (both z n zy) (n + i)).1 h0.out
      have h0' := h0.out
      rw [HT.out] at E h0' ⊢
      simp only at E h0'
      subst E h0'
      rw [Int.natCast_add]
      clear NX CC CY HN HM HT h0
      go_wp2
      go_ret
      exact yes_of (by simp) hg

theorem joinsLaw (v y : Option Addr) (n m cap cp : Nat) (z zy : Nat → Int) (w : World) (hn : n ≤ 1048576) (hm : m ≤ 1048576) (hT : Tab w) (HN : v = none → n = 0 ∧ cap = 0) (HM : y = none → m = 0 ∧ cp = 0) (hc : Lies v n z w) (hy : Lies y m zy w) :
    Calls Tryd.prog 4 #[.slice v n cap, .slice y m cp] w (Yes w) := by
  have R1 := Lib.hid (fun w' (h : Below w.heap.size w w') => runs_to v n cap z w' (by omega) (hT.fresh h) (hc.fresh h))
  have R2 : Hid (∀ w' g c, Below w.heap.size w w' → w'.ownsRow w.heap.size 3 1 (.slice (some ⟨g, 0, none⟩) (n + m) c) (n + m) (us (both z n zy) (n + m)) → Calls Tryd.prog 7 #[.slice (some ⟨g, 0, none⟩) (n + m) c] w' (IsRun (both z n zy) (n + m) w')) := Lib.hid fun w' g c h own => runs_to (some ⟨g, 0, none⟩) (n + m) c (both z n zy) w' (by omega) (hT.fresh h) (lies_own own)
  unfold IsRun at R1 R2
  by_cases h : (script z n).2.2 = 0
  · rw [h, (script_ok z n).1 h] at R1
    exact joins_yes v y n m cap cp z zy _ _ _ _ w hn hm (Lib.hid (shown w hT)) R1 R2 (Lib.hid fun s e w' h => next s e w' (hT.fresh h)) (Lib.hid HN) (Lib.hid HM) (Lib.hid fun w' h => hc.fresh h) (Lib.hid fun w' h => hy.fresh h) (Lib.hid ⟨by rw [both_left], by rw [both_left]; exact h⟩) (Lib.hid rfl)
  · rw [(script_ok z n).2 h] at R1
    rw [both_bad h, (script_ok z n).2 h] at R2
    exact joins_no v y n m cap cp z zy _ _ w hn hm (Lib.hid (shown w hT)) R1 R2 (Lib.hid HN) (Lib.hid HM) (Lib.hid fun w' h => hc.fresh h) (Lib.hid fun w' h => hy.fresh h) (by simpa using h) (by simpa using h)
end Go.Proofs.YtmcfmkganljbmaaDoor.State
