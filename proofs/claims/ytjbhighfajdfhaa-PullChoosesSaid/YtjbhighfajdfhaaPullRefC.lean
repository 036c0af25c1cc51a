/- What the document's Choose returns. Conditions: each number is one of its kind. -/
import Derived.Test.YtjbhighfajdfhaaPullRef
import Derived.Test.YtjbhighfajdfhaaPullChoose
namespace Go.Proofs.Ytjbhighfajdfhaa.Pull
open Go.ChangeShapes Go.WideShapes Go.ChangeAt Go.RowKit Load
set_option linter.unusedVariables false
set_option linter.unusedSimpArgs false
attribute [local irreducible] Go.wpQuiet

def OutI (C : Nat → Cd) (g p : Int) (n : Nat) (w : World) (left : Nat) (t : Value) (wr : World) : Prop :=
  ∃ k : Nat, left + k = n ∧ t = .int .i64 k ∧ Hid (∀ q, q < k → ¬ IsA C g p n q) ∧ Below w.heap.size w wr
def InI (C : Nat → Cd) (g p : Int) (n k : Nat) (w : World) (left : Nat) (t12 t13 : Value) (wr : World) : Prop :=
  ∃ (j : Nat) (c : Bool), left + j = n ∧ t13 = .int .i64 j ∧ t12 = .bool c ∧ Hid (c = true → mayc (C k) g p = true ∧ ∀ q, q < j → ¬ (q = k) → mayc (C q) g p = true → ahd C g q k = false) ∧ Hid (c = false → ¬ IsA C g p n k) ∧ Below w.heap.size w wr

set_option maxRecDepth 100000 in
set_option maxHeartbeats 4000000 in
theorem refChooses (v : Option Addr) (n cap : Nat) (C : Nat → Cd) (f t p : Int) (w : World) (hf : U64 f) (ht : U64 t) (hn : n ≤ 9223372036854775807) (HO : Hid (∀ j, j < n → (C j).Ok)) (HC : Hid (Cs v n C w)) :
    Calls Try.prog 12 #[.slice v n cap, .int .u64 f, .int .u64 t, .int .i64 p] w (Two (cho C (gap f t) p n) w) := by
  have GP := Lib.hid (fun w => refGaps f t w hf ht)
  have hG := gap_bd hf ht
  generalize gap f t = G at *
  have MY : Hid (∀ (j : Nat) (w : World), j < n → Calls Try.prog 17 #[.agg #[.int .i64 (C j).id, .int .u64 (C j).wt, .int .u64 ((C j).ms : Int), .bool (C j).rn], .int .u64 G, .int .i64 p] w (IsG (.bool (mayc (C j) G p)) w)) := Lib.hid fun j w hj => refMays (C j) G p w (HO.out j hj)
  have AH : Hid (∀ (j k : Nat) (w : World), j < n → k < n → mayc (C j) G p = true → mayc (C k) G p = true → Cs v n C w → Calls Try.prog 22 #[.slice v n cap, .int .i64 j, .int .i64 k, .int .u64 G] w (IsG (.bool (ahd C G j k)) w)) := Lib.hid fun j k w hj hk mj mk h => by
    rw [← docA_eq (HO.out j hj) (HO.out k hk) (mayc_iff.1 mj).2.2.1 (mayc_iff.1 mk).2.2.1]
    exact aheads v n cap j k C G w hG hj hk (HO.out j hj) (HO.out k hk) h
  have FP : Hid (∀ k, k < n → IsA C G p n k → (k : Int) = cho C G p n) := Lib.hid fun k hk h => isA_cho hk h
  have FN : Hid ((∀ q, q < n → ¬ IsA C G p n q) → cho C G p n = -1) := Lib.hid fun h => isA_none h
  generalize cho C G p n = R at *
  clear HO hf ht hG
  go_enter Try.func12, Try.ntmps12
  go_wp2_with (go_at_call 21; refine (GP.out _).mono ?_; rintro e w1 ⟨rfl, hw⟩; replace hw := hw.symm; subst hw)
  go_loopg [11] n (fun left t wr => OutI C G p n w left t wr)
  case atStart => exact ⟨0, by omega, rfl, Lib.hid (fun q hq => by omega), Below.refl _ _⟩
  case round =>
    clear GP
    obtain ⟨k, hk, rfl, HB, hb⟩ := hrel
    by_cases hlt : k < n
    · have h3 : (k : Int) < n := by omega
      have q0 : (0 : Int) ≤ k := by omega
      have MK := Lib.hid (fun w => MY.out k w hlt)
      obtain ⟨b1, o1, rfl, l1, x0, x1, x2, x3⟩ := HC.out.fresh hb k hlt
      obtain ⟨mk, hmk0⟩ : ∃ b, mayc (C k) G p = b := ⟨_, rfl⟩
      rw [hmk0] at MK
      have J0 : ∀ (wx : World), Below w.heap.size w wx → InI C G p n k w n (.bool mk) (.int .i64 0) wx := fun wx h =>
        ⟨0, _, by omega, rfl, rfl, Lib.hid (fun h => ⟨hmk0.trans h, fun q hq => by omega⟩), Lib.hid (fun h hI => by have := hI.1; rw [hmk0, h] at this; cases this), h⟩
      clear hmk0
      have HX : Hid (¬ IsA C G p n k → ∀ wx, Below w.heap.size w wx → OutI C G p n w (n - (k + 1)) (.int .i64 ((k : Int) + 1)) wx) := Lib.hid fun hno wx h => ⟨k + 1, by omega, by go_num, Lib.hid (fun q hq => by rcases (by omega : q < k ∨ q = k) with h | rfl; exact HB.out q h; exact hno), h⟩
      go_wp2_with (go_at_call 17; refine (MK.out _).mono ?_; rintro e w1 ⟨rfl, hg1⟩; replace hb := hb.trans (hg1.mono hb.size); clear hg1 x0 x1 x2 x3)
      go_loopg [12, 13] n (fun left t12 t13 wr => InI C G p n k w left t12 t13 wr)
      case atStart => exact J0 _ hb
      case round =>
        clear hb J0 MK l1
        obtain ⟨j, c, hj, rfl, rfl, HT, HF, hb⟩ := hrel
        have q1 : (0 : Int) ≤ j := by omega
        by_cases hlj : j < n
        · have h5 : (j : Int) < n := by omega
          cases c
          · have N1 := Lib.hid (HX.out (HF.out rfl) _ hb)
            go_wp2_with fail
            go_roundg (n - (k + 1))
            case measure => omega
            case rel => exact N1.out
          · have NX : Hid ((¬ (j = k) → mayc (C j) G p = true → ahd C G j k = false) → ∀ wx, Below w.heap.size w wx → InI C G p n k w (gk - 1) (.bool true) (.int .i64 ((j : Int) + 1)) wx) := Lib.hid fun h wx hw => ⟨j + 1, true, by omega, by go_num, rfl, Lib.hid (fun _ => ⟨(HT.out rfl).1, fun q hq hne hm => by rcases (by omega : q < j ∨ q = j) with h1 | rfl; exact (HT.out rfl).2 q h1 hne hm; exact h hne hm⟩), Lib.hid (fun h => by cases h), hw⟩
            have NF : Hid (¬ (j = k) → mayc (C j) G p = true → ahd C G j k = true → ∀ wx, Below w.heap.size w wx → InI C G p n k w (gk - 1) (.bool false) (.int .i64 ((j : Int) + 1)) wx) := Lib.hid fun hne hm ha wx hw => ⟨j + 1, false, by omega, by go_num, rfl, Lib.hid (fun h => by cases h), Lib.hid (fun _ hI => by have := hI.2 j hlj hne hm; rw [ha] at this; cases this), hw⟩
            by_cases hjk : j = k
            · subst hjk
              have N1 := Lib.hid (NX.out (fun h => absurd rfl h) _ hb)
              go_wp2_with fail
              go_roundg (gk - 1)
              case measure => omega
              case rel => exact N1.out
            · have e1 : ¬ (j : Int) = k := by omega
              have e2 : ((j : Int) == k) = false := by simp [e1]
              have hmk := (HT.out rfl).1
              obtain ⟨b2, o2, eb, _, y0, y1, y2, y3⟩ := HC.out.fresh hb j hlj
              cases eb
              have MJ := Lib.hid (fun w => MY.out j w hlj)
              cases hmj : mayc (C j) G p
              · have N1 := Lib.hid (NX.out (fun _ h => absurd (hmj.symm.trans h) (by decide)))
                rw [hmj] at MJ
                go_wp2_with (go_at_call 17; refine (MJ.out _).mono ?_; rintro e w1 ⟨rfl, hg1⟩; replace hb := hb.trans (hg1.mono hb.size); clear hg1)
                go_roundg (gk - 1)
                case measure => omega
                case rel => exact N1.out _ hb
              · have AJ := Lib.hid (fun w => AH.out j k w hlj hlt hmj hmk)
                rw [hmj] at MJ
                have HC2 := Lib.hid (fun wx (h : Below w.heap.size w wx) => HC.out.fresh h)
                cases haj : ahd C G j k
                · have N1 := Lib.hid (NX.out (fun _ _ => haj))
                  rw [haj] at AJ
                  go_wp2_with (first
                    | (go_at_call 17; refine (MJ.out _).mono ?_; rintro e w1 ⟨rfl, hg1⟩; replace hb := hb.trans (hg1.mono hb.size); clear hg1)
                    | (go_at_call 22; refine (AJ.out _ (HC2.out _ hb)).mono ?_; rintro e w2 ⟨rfl, hg1⟩; replace hb := hb.trans (hg1.mono hb.size); clear hg1))
                  go_roundg (gk - 1)
                  case measure => omega
                  case rel => exact N1.out _ hb
                · have N1 := Lib.hid (NF.out hjk hmj haj)
                  rw [haj] at AJ
                  go_wp2_with (first
                    | (go_at_call 17; refine (MJ.out _).mono ?_; rintro e w1 ⟨rfl, hg1⟩; replace hb := hb.trans (hg1.mono hb.size); clear hg1)
                    | (go_at_call 22; refine (AJ.out _ (HC2.out _ hb)).mono ?_; rintro e w2 ⟨rfl, hg1⟩; replace hb := hb.trans (hg1.mono hb.size); clear hg1))
                  go_roundg (gk - 1)
                  case measure => omega
                  case rel => exact N1.out _ hb
        · have h5 : ¬ (j : Int) < n := by omega
          obtain rfl : j = n := by omega
          cases c
          · have N1 := Lib.hid (HX.out (HF.out rfl) _ hb)
            go_wp2_with fail
            go_roundg (j - (k + 1))
            case measure => omega
            case rel => exact N1.out
          · have FE := FP.out k hlt ⟨(HT.out rfl).1, (HT.out rfl).2⟩
            subst FE
            go_wp2_with fail
            go_ret2
            exact ⟨by rw [plc_nat, fnd_nat]; rfl, hb⟩
    · have h3 : ¬ (k : Int) < n := by omega
      obtain rfl : k = n := by omega
      have FE := FN.out HB.out
      subst FE
      go_wp2
      go_ret2
      exact ⟨rfl, hb⟩
end Go.Proofs.Ytjbhighfajdfhaa.Pull
