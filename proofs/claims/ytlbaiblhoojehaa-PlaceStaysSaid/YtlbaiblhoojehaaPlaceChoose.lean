/- Which P package place and the document choose. Conditions: each argument is a number of its kind. -/
import Derived.Test.YtlbaiblhoojehaaPlaceMem
namespace Go.Proofs.Ytlbaiblhoojehaa.Place
open Go.ChangeShapes Go.WideShapes Go.ChangeAt Go.RowKit Load
set_option linter.unusedVariables false
set_option linter.unusedSimpArgs false
attribute [local irreducible] Go.wpQuiet

theorem cho_none {z : Nat → Int} {n r m : Nat} {R : Nat → Bool} {p : Int} (h : lea z n m = -1) : cho z n r R m p = (0, 9) := by unfold cho; rw [if_pos h]
theorem cho_prev {z : Nat → Int} {n r m : Nat} {R : Nat → Bool} {p : Int} (h : lea z n m ≠ -1) (h1 : over (rest z n r R m) p = true) : cho z n r R m p = (p, 0) := by unfold cho; rw [if_neg h, if_pos h1]
theorem cho_low {z : Nat → Int} {n r m : Nat} {R : Nat → Bool} {p : Int} (h : lea z n m ≠ -1) (h1 : over (rest z n r R m) p = false) (h2 : low (rest z n r R m) n ≠ -1) : cho z n r R m p = (low (rest z n r R m) n, 0) := by unfold cho; rw [if_neg h, if_neg (by rw [h1]; simp), if_neg h2]
theorem cho_stay {z : Nat → Int} {n r m : Nat} {R : Nat → Bool} {p : Int} (h : lea z n m ≠ -1) (h1 : over (rest z n r R m) p = false) (h2 : low (rest z n r R m) n = -1) (h3 : over (can n m) p = true) (h4 : z p.toNat ≤ z (lea z n m).toNat) : cho z n r R m p = (p, 0) := by unfold cho; rw [if_neg h, if_neg (by rw [h1]; simp), if_pos h2, if_pos ⟨h3, h4⟩]
theorem cho_lea {z : Nat → Int} {n r m : Nat} {R : Nat → Bool} {p : Int} (h : lea z n m ≠ -1) (h1 : over (rest z n r R m) p = false) (h2 : low (rest z n r R m) n = -1) (h3 : ¬ (over (can n m) p = true ∧ z p.toNat ≤ z (lea z n m).toNat)) : cho z n r R m p = (lea z n m, 0) := by unfold cho; rw [if_neg h, if_neg (by rw [h1]; simp), if_pos h2, if_neg h3]
def Two (c : Int × Int) (w : World) (e : Ending) (w' : World) : Prop := e = .returned (.tuple #[.int .i64 c.1, .int .i64 c.2]) ∧ Below w.heap.size w w'
theorem two_of {a b : Int} {c : Int × Int} {w w' : World} (h : c = (a, b)) (g : Below w.heap.size w w') : Two c w (.returned (.tuple #[.int .i64 a, .int .i64 b])) w' := by subst h; exact ⟨rfl, g⟩

def Asked (m n : Nat) (w : World) (e : Ending) (w' : World) : Prop :=
  ∃ x y, e = .returned (.func (.func 24) #[] #[.pointer (some ⟨x, 0, none⟩), .pointer (some ⟨y, 0, none⟩)]) ∧ (w'.cell? ⟨x, 0, none⟩ = some (.int .i64 ((min n 64 : Nat) : Int)) ∧ w'.cell? ⟨y, 0, none⟩ = some (.int .u64 m)) ∧ Below w.heap.size w w'
theorem asks (v : Option Addr) (n cap m : Nat) (w : World) (hn : n ≤ 9223372036854775807) : Calls Try.prog 20 #[.slice v n cap, .int .u64 m] w (Asked m n w) := by
  refine (alloweds v n cap m w hn).mono ?_
  rintro e w' ⟨rfl, rfl⟩
  refine ⟨_, _, rfl, ⟨?_, ?_⟩, (alloc1 w _).alloc (by simp) _⟩
  · have := cell_new (w.alloc (.cells #[.int .u64 m] 24)) (.int .i64 ((min n 64 : Nat) : Int)) 3
    rw [World.size_alloc] at this
    exact this
  · exact cell_fresh (cell_new w (.int .u64 m) 24) (alloc1 _ _)
theorem asks_in (w : World) (z : Nat → Int) : True := trivial

set_option maxHeartbeats 2000000 in
theorem chooses (v : Option Addr) (n cap : Nat) (u : Option Addr) (r rc m : Nat) (z : Nat → Int) (R : Nat → Bool) (prev : Int) (w : World) (hm : m < 18446744073709551616) (hn : n ≤ 9223372036854775807) (hr : r ≤ 9223372036854775807) (h : Cell v n cap u r z R w) :
    Calls Try.prog 11 #[.slice v n cap, .slice u r rc, .int .i64 prev, .int .u64 m] w (Two (cho z n r R m prev) w) := by
  have LE := Lib.hid (fun w (h : Cell v n cap u r z R w) => least v n cap m z w hm h.1)
  have RS := Lib.hid (fun w => restings v n cap u r rc m w hn)
  have RT := Lib.hid (fun x y q a k w (HT : Took v n cap u r rc m x y q a k w) (h : Cell v n cap u r z R w) => rests v n cap u r rc m x y q a k z R prev w hm hn hr HT (Lib.hid h.1.lies) (Lib.hid h.2))
  have LW : Hid (∀ x y q a k w, Took v n cap u r rc m x y q a k w → Cell v n cap u r z R w → Calls Try.prog 19 #[.func (.func 23) #[] #[.pointer (some ⟨x, 0, none⟩), .pointer (some ⟨y, 0, none⟩), .pointer (some ⟨q, 0, none⟩)]] w (Is (.int .i64 (low (rest z n r R m) n)) w)) := Lib.hid fun x y q a k w HT h => by
    rw [← low_rest]
    refine lowests (rest z n r R m) _ _ _ w (Lib.hid fun p _ W hW => ?_)
    have := rests v n cap u r rc m x y q a k z R p W hm hn hr (HT.fresh hW) (Lib.hid (h.1.lies.fresh hW)) (Lib.hid (h.2.fresh hW))
    rwa [over_nat] at this
  have AL := Lib.hid (fun w => asks v n cap m w hn)
  have MY := Lib.hid (fun x y w c1 c2 => mays n m prev x y w hm c1 c2)
  have hC := Lib.hid h
  clear h
  have hg := Below.refl w.heap.size w
  rcases lea_bd z n m with ⟨hl, -⟩ | ⟨l, hl, hln, -, -⟩
  · have E := Lib.hid (cho_none (r := r) (R := R) (p := prev) hl)
    rw [hl] at LE
    clear hl
    go_enter Try.func11, Try.ntmps11
    go_wp2_with (first
      | (go_at_call 17; refine (LE.out _ hC.out).mono ?_; rintro e w1 ⟨rfl, hg1⟩; replace hC := Lib.hid (hC.out.fresh hg1); replace hg := fresh_trans hg hg1; clear hg1)
      | (go_at_call 18; refine (RS.out _).mono ?_; rintro e w2 ⟨x, y, q, a, k, rfl, HT, hg1⟩; replace HT := Lib.hid HT; replace hC := Lib.hid (hC.out.fresh hg1); replace hg := fresh_trans hg hg1; clear hg1)
      | (go_at_call 23; refine (RT.out _ _ _ _ _ _ HT.out hC.out).mono ?_; rintro e w3 ⟨rfl, hw⟩; replace hw := hw.symm; subst hw)
      | (go_at_call 19; refine (LW.out _ _ _ _ _ _ HT.out hC.out).mono ?_; rintro e w3 ⟨rfl, hw⟩; replace hw := hw.symm; subst hw)
      | (go_at_call 20; refine (AL.out _).mono ?_; rintro e w4 ⟨x', y', rfl, HA, hg1⟩; replace HA := Lib.hid HA; replace hC := Lib.hid (hC.out.fresh hg1); replace hg := fresh_trans hg hg1; clear hg1)
      | (go_at_call 24; refine (MY.out _ _ _ HA.out.1 HA.out.2).mono ?_; rintro e w3 ⟨rfl, hw⟩; replace hw := hw.symm; subst hw))
    go_ret2
    exact two_of E.out hg
  have hl1 : lea z n m ≠ -1 := by omega
  have hl2 : ((l : Int) == -1) = false := by simp
  have hln' : (l : Int) < n := by omega
  cases ho : over (rest z n r R m) prev
  rotate_left
  · have E := Lib.hid (cho_prev hl1 ho)
    rw [ho] at RT
    rw [hl] at LE
    clear hl ho hl1
    go_enter Try.func11, Try.ntmps11
    go_wp2_with (first
      | (go_at_call 17; refine (LE.out _ hC.out).mono ?_; rintro e w1 ⟨rfl, hg1⟩; replace hC := Lib.hid (hC.out.fresh hg1); replace hg := fresh_trans hg hg1; clear hg1)
      | (go_at_call 18; refine (RS.out _).mono ?_; rintro e w2 ⟨x, y, q, a, k, rfl, HT, hg1⟩; replace HT := Lib.hid HT; replace hC := Lib.hid (hC.out.fresh hg1); replace hg := fresh_trans hg hg1; clear hg1)
      | (go_at_call 23; refine (RT.out _ _ _ _ _ _ HT.out hC.out).mono ?_; rintro e w3 ⟨rfl, hw⟩; replace hw := hw.symm; subst hw)
      | (go_at_call 19; refine (LW.out _ _ _ _ _ _ HT.out hC.out).mono ?_; rintro e w3 ⟨rfl, hw⟩; replace hw := hw.symm; subst hw)
      | (go_at_call 20; refine (AL.out _).mono ?_; rintro e w4 ⟨x', y', rfl, HA, hg1⟩; replace HA := Lib.hid HA; replace hC := Lib.hid (hC.out.fresh hg1); replace hg := fresh_trans hg hg1; clear hg1)
      | (go_at_call 24; refine (MY.out _ _ _ HA.out.1 HA.out.2).mono ?_; rintro e w3 ⟨rfl, hw⟩; replace hw := hw.symm; subst hw))
    go_ret2
    exact two_of E.out hg
  rw [ho] at RT
  rcases low_bd (rest z n r R m) n with ⟨hw, -⟩ | ⟨k, hw, -, -, -⟩
  rotate_left
  · have E := Lib.hid (cho_low hl1 ho (by omega))
    rw [hw] at LW E
    rw [hl] at LE
    have hk : ((k : Int) == -1) = false := by simp
    clear hl ho hl1 hw
    go_enter Try.func11, Try.ntmps11
    go_wp2_with (first
      | (go_at_call 17; refine (LE.out _ hC.out).mono ?_; rintro e w1 ⟨rfl, hg1⟩; replace hC := Lib.hid (hC.out.fresh hg1); replace hg := fresh_trans hg hg1; clear hg1)
      | (go_at_call 18; refine (RS.out _).mono ?_; rintro e w2 ⟨x, y, q, a, k, rfl, HT, hg1⟩; replace HT := Lib.hid HT; replace hC := Lib.hid (hC.out.fresh hg1); replace hg := fresh_trans hg hg1; clear hg1)
      | (go_at_call 23; refine (RT.out _ _ _ _ _ _ HT.out hC.out).mono ?_; rintro e w3 ⟨rfl, hw⟩; replace hw := hw.symm; subst hw)
      | (go_at_call 19; refine (LW.out _ _ _ _ _ _ HT.out hC.out).mono ?_; rintro e w3 ⟨rfl, hw⟩; replace hw := hw.symm; subst hw)
      | (go_at_call 20; refine (AL.out _).mono ?_; rintro e w4 ⟨x', y', rfl, HA, hg1⟩; replace HA := Lib.hid HA; replace hC := Lib.hid (hC.out.fresh hg1); replace hg := fresh_trans hg hg1; clear hg1)
      | (go_at_call 24; refine (MY.out _ _ _ HA.out.1 HA.out.2).mono ?_; rintro e w3 ⟨rfl, hw⟩; replace hw := hw.symm; subst hw))
    go_ret2
    exact two_of E.out hg
  rw [hw] at LW
  cases hc : over (can n m) prev
  · have E := Lib.hid ((cho_lea hl1 ho hw (fun h => by rw [h.1] at hc; cases hc)).trans (by rw [hl]))
    rw [hc] at MY
    rw [hl] at LE
    clear hl ho hl1 hw hc
    go_enter Try.func11, Try.ntmps11
    go_wp2_with (first
      | (go_at_call 17; refine (LE.out _ hC.out).mono ?_; rintro e w1 ⟨rfl, hg1⟩; replace hC := Lib.hid (hC.out.fresh hg1); replace hg := fresh_trans hg hg1; clear hg1)
      | (go_at_call 18; refine (RS.out _).mono ?_; rintro e w2 ⟨x, y, q, a, k, rfl, HT, hg1⟩; replace HT := Lib.hid HT; replace hC := Lib.hid (hC.out.fresh hg1); replace hg := fresh_trans hg hg1; clear hg1)
      | (go_at_call 23; refine (RT.out _ _ _ _ _ _ HT.out hC.out).mono ?_; rintro e w3 ⟨rfl, hw⟩; replace hw := hw.symm; subst hw)
      | (go_at_call 19; refine (LW.out _ _ _ _ _ _ HT.out hC.out).mono ?_; rintro e w3 ⟨rfl, hw⟩; replace hw := hw.symm; subst hw)
      | (go_at_call 20; refine (AL.out _).mono ?_; rintro e w4 ⟨x', y', rfl, HA, hg1⟩; replace HA := Lib.hid HA; replace hC := Lib.hid (hC.out.fresh hg1); replace hg := fresh_trans hg hg1; clear hg1)
      | (go_at_call 24; refine (MY.out _ _ _ HA.out.1 HA.out.2).mono ?_; rintro e w3 ⟨rfl, hw⟩; replace hw := hw.symm; subst hw))
    have MQ := Lib.hid (fun nq => MY.out _ _ (World.drewN w4 nq) HA.out.1 HA.out.2)
    go_quiet (first | (go_at_call 24; exact Calls.quiet_of_same (MQ.out _)))
    go_wp2_with fail
    go_ret2
    exact two_of E.out (drawn hg _)
  rw [hc] at MY
  obtain ⟨p, rfl, hp⟩ := over_yes hc
  obtain ⟨hpn, -, -⟩ := can_lt hp
  have hpn' : (p : Int) < n := by omega
  obtain ⟨b, o, rfl, hb, d1⟩ := hC.out.1.lies p hpn
  obtain ⟨b', o', e', hb', d2⟩ := hC.out.1.lies l hln
  obtain ⟨rfl, rfl⟩ : b' = b ∧ o' = o := by cases e'; exact ⟨rfl, rfl⟩
  clear e'
  have D1 := Lib.hid (fun wx (h : Below w.heap.size w wx) => cell_fresh d1 h)
  have D2 := Lib.hid (fun wx (h : Below w.heap.size w wx) => cell_fresh d2 h)
  clear d1 d2
  by_cases hz : z p ≤ z l
  · have E := Lib.hid (cho_stay hl1 ho hw hc (by rw [hl]; simpa using hz))
    rw [hl] at LE
    clear hl ho hl1 hw hc hp
    generalize z p = zp at *
    generalize z l = zl at *
    have hz2 : decide (zp ≤ zl) = true := by simpa using hz
    go_enter Try.func11, Try.ntmps11
    go_wp2_with (first
      | (go_at_call 17; refine (LE.out _ hC.out).mono ?_; rintro e w1 ⟨rfl, hg1⟩; replace hC := Lib.hid (hC.out.fresh hg1); replace hg := fresh_trans hg hg1; clear hg1)
      | (go_at_call 18; refine (RS.out _).mono ?_; rintro e w2 ⟨x, y, q, a, k, rfl, HT, hg1⟩; replace HT := Lib.hid HT; replace hC := Lib.hid (hC.out.fresh hg1); replace hg := fresh_trans hg hg1; clear hg1)
      | (go_at_call 23; refine (RT.out _ _ _ _ _ _ HT.out hC.out).mono ?_; rintro e w3 ⟨rfl, hw⟩; replace hw := hw.symm; subst hw)
      | (go_at_call 19; refine (LW.out _ _ _ _ _ _ HT.out hC.out).mono ?_; rintro e w3 ⟨rfl, hw⟩; replace hw := hw.symm; subst hw)
      | (go_at_call 20; refine (AL.out _).mono ?_; rintro e w4 ⟨x', y', rfl, HA, hg1⟩; replace HA := Lib.hid HA; replace hC := Lib.hid (hC.out.fresh hg1); replace hg := fresh_trans hg hg1; clear hg1; have q1 := D1.out _ hg; have q2 := D2.out _ hg)
      | (go_at_call 24; refine (MY.out _ _ _ HA.out.1 HA.out.2).mono ?_; rintro e w3 ⟨rfl, hw⟩; replace hw := hw.symm; subst hw))
    have MQ := Lib.hid (fun nq => MY.out _ _ (World.drewN w4 nq) HA.out.1 HA.out.2)
    go_quiet (first | (go_at_call 24; exact Calls.quiet_of_same (MQ.out _)))
    go_wp2_with fail
    go_ret2
    exact two_of E.out (drawn hg _)
  · have E := Lib.hid ((cho_lea hl1 ho hw (fun h => hz (by have := h.2; rw [hl] at this; simpa using this))).trans (by rw [hl]))
    rw [hl] at LE
    clear hl ho hl1 hw hc hp
    generalize z p = zp at *
    generalize z l = zl at *
    have hz2 : decide (zp ≤ zl) = false := by simpa using hz
    go_enter Try.func11, Try.ntmps11
    go_wp2_with (first
      | (go_at_call 17; refine (LE.out _ hC.out).mono ?_; rintro e w1 ⟨rfl, hg1⟩; replace hC := Lib.hid (hC.out.fresh hg1); replace hg := fresh_trans hg hg1; clear hg1)
      | (go_at_call 18; refine (RS.out _).mono ?_; rintro e w2 ⟨x, y, q, a, k, rfl, HT, hg1⟩; replace HT := Lib.hid HT; replace hC := Lib.hid (hC.out.fresh hg1); replace hg := fresh_trans hg hg1; clear hg1)
      | (go_at_call 23; refine (RT.out _ _ _ _ _ _ HT.out hC.out).mono ?_; rintro e w3 ⟨rfl, hw⟩; replace hw := hw.symm; subst hw)
      | (go_at_call 19; refine (LW.out _ _ _ _ _ _ HT.out hC.out).mono ?_; rintro e w3 ⟨rfl, hw⟩; replace hw := hw.symm; subst hw)
      | (go_at_call 20; refine (AL.out _).mono ?_; rintro e w4 ⟨x', y', rfl, HA, hg1⟩; replace HA := Lib.hid HA; replace hC := Lib.hid (hC.out.fresh hg1); replace hg := fresh_trans hg hg1; clear hg1; have q1 := D1.out _ hg; have q2 := D2.out _ hg)
      | (go_at_call 24; refine (MY.out _ _ _ HA.out.1 HA.out.2).mono ?_; rintro e w3 ⟨rfl, hw⟩; replace hw := hw.symm; subst hw))
    have MQ := Lib.hid (fun nq => MY.out _ _ (World.drewN w4 nq) HA.out.1 HA.out.2)
    go_quiet (first | (go_at_call 24; exact Calls.quiet_of_same (MQ.out _)))
    go_wp2_with fail
    go_ret2
    exact two_of E.out (drawn hg _)
end Go.Proofs.Ytlbaiblhoojehaa.Place
