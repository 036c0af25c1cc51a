/- The walk of PullNone. Conditions: each argument is a number of its kind; a slice has room for what it holds. -/
import Derived.Test.YtjbhighfajdfhaaPullLaws
namespace Go.Proofs.Ytjbhighfajdfhaa.Pull
open Go.ChangeShapes Go.WideShapes Go.ChangeAt Go.RowKit Load
set_option linter.unusedVariables false
set_option linter.unusedSimpArgs false
attribute [local irreducible] Go.wpQuiet

theorem cho_no {C : Nat → Cd} {g p : Int} {n : Nat} (h : ∀ j, j < n → mayc (C j) g p = false) : cho C g p n = -1 := by
  rcases cho_end C g p n with e | ⟨q, _, hq, hm⟩
  · exact e
  · rw [h q hq] at hm; cases hm
theorem two_no {w w' : World} {e : Ending} (h : Two (-1) w e w') : e = .returned (.tuple #[.int .i64 0, .bool false]) ∧ Below w.heap.size w w' := h
/-- The task, as one that runs. -/
def onC (C : Nat → Cd) (j : Nat) : Cd := { C j with rn := true }
def NoneI (C : Nat → Cd) (n : Nat) (w : World) (left : Nat) (t11 t12 : Value) (wr : World) : Prop :=
  ∃ k : Nat, left + k = n ∧ t12 = .int .i64 k ∧ wr.ownsRow w.heap.size 35 4 t11 k (cellsC (onC C) k) ∧ Below w.heap.size w wr
set_option maxRecDepth 100000 in
set_option maxHeartbeats 4000000 in
theorem noneLaw (v : Option Addr) (n cap : Nat) (C : Nat → Cd) (f t p : Int) (w : World) (hf : U64 f) (ht : U64 t) (hn : n ≤ 9223372036854775807) (h : In v n cap C w) :
    Calls Try.prog 7 #[.slice v n cap, .int .u64 f, .int .u64 t, .int .i64 p] w (Yes w) := by
  have S := Lib.hid (fun w => shown w)
  have hI := Lib.hid h
  have FW := Lib.hid (fun w (h : In v n cap C w) => few' v n cap C w hn h)
  have IL : Hid (∀ w, In v n cap C w → In v (min n 100) cap C w) := Lib.hid fun w h => h.less (by omega)
  have hk : min n 100 ≤ 100 := by omega
  have hln : min n 100 ≤ n := by omega
  generalize min n 100 = l at *
  have C1 : Hid (∀ w, In v l cap C w → Calls Try.prog 11 #[.slice v l cap, .int .u64 (min f t), .int .u64 (max f t), .int .i64 p] w (fun e w' => e = .returned (.tuple #[.int .i64 0, .bool false]) ∧ Below w.heap.size w w')) := Lib.hid fun w h => by
    have := choose' v l cap C (min f t) (max f t) p w (by unfold U64 at *; omega) (by unfold U64 at *; omega) hk h
    rw [cho_no (fun j hj => by rw [mayc_law, decide_eq_false (show ¬ max f t < min f t by omega)]; simp)] at this
    exact this
  have C2 : Hid (∀ w, Calls Try.prog 11 #[.slice none 0 0, .int .u64 f, .int .u64 t, .int .i64 p] w (fun e w' => e = .returned (.tuple #[.int .i64 0, .bool false]) ∧ Below w.heap.size w w')) := Lib.hid fun w => chooses none 0 0 C f t p w hf ht (by omega) (Lib.hid fun j hj => by omega) (Lib.hid fun j hj => by omega)
  have C3 : Hid (∀ w, In v l cap C w → Calls Try.prog 11 #[.slice v l cap, .int .u64 f, .int .u64 t, .int .i64 64] w (fun e w' => e = .returned (.tuple #[.int .i64 0, .bool false]) ∧ Below w.heap.size w w')) := Lib.hid fun w h => by
    have := choose' v l cap C f t 64 w hf ht hk h
    rw [cho_no (fun j hj => by rw [mayc_law, show allow (C j).ms 64 = false from rfl]; simp)] at this
    exact this
  have C5 : Hid (∀ w, In v l cap C w → Calls Try.prog 11 #[.slice v l cap, .int .u64 f, .int .u64 t, .int .i64 (-1)] w (fun e w' => e = .returned (.tuple #[.int .i64 0, .bool false]) ∧ Below w.heap.size w w')) := Lib.hid fun w h => by
    have := choose' v l cap C f t (-1) w hf ht hk h
    rw [cho_no (fun j hj => by rw [mayc_law, show allow (C j).ms (-1) = false from rfl]; simp)] at this
    exact this
  have C4 : Hid (∀ ao cp w, Cs ao l (onC C) w → Calls Try.prog 11 #[.slice ao l cp, .int .u64 f, .int .u64 t, .int .i64 p] w (fun e w' => e = .returned (.tuple #[.int .i64 0, .bool false]) ∧ Below w.heap.size w w')) := Lib.hid fun ao cp w hc => by
    have := chooses ao l cp (onC C) f t p w hf ht (by omega) (Lib.hid fun j hj => by
      obtain ⟨a, b, c, d, e⟩ := h.nums j (by omega)
      exact ⟨a, b, c, d, e⟩) (Lib.hid hc)
    rw [cho_no (fun j hj => by rw [mayc_law]; simp [onC])] at this
    exact this
  have hg := Below.refl w.heap.size w
  obtain ⟨i0, hi, hz0, hz1, hz2⟩ := info_parts infoP
  clear h
  go_enter Try.func7, Try.ntmps7
  go_wp2_with (first
    | (go_at_call 9; refine (S.out _).mono ?_; rintro e w' ⟨rfl, hg1⟩; replace hI := Lib.hid (hI.out.fresh hg1); replace hg := fresh_trans hg hg1; clear hg1)
    | (go_at_call 10; refine (FW.out _ hI.out).mono ?_; rintro e w1 ⟨rfl, hw⟩; replace hw := hw.symm; subst hw; replace hI := Lib.hid (IL.out _ hI.out)))
  clear S FW IL
  go_loopg [11, 12] l (fun left t11 t12 wr => NoneI C l w' left t11 t12 wr)
  case atStart => exact ⟨0, by omega, rfl, World.ownsRow_nil _ _ _ _, Below.refl _ _⟩
  case round =>
    obtain ⟨k, hk', rfl, hown, hb⟩ := hrel
    by_cases hlt : k < l
    · have h3 : (k : Int) < l := by omega
      have k0 : (0 : Int) ≤ k := by omega
      obtain ⟨b1, o1, rfl, hb1, x0, x1, x2, x3⟩ := hI.out.lies.fresh hb k hlt
      have HF : Hid (∀ v2 wx, wx.ownsRow w'.heap.size 35 4 v2 (k + 1) (cellsC (onC C) k ++ one4 (onC C k)) → Below w'.heap.size w' wx → NoneI C l w' (gk - 1) v2 (.int .i64 ((k : Int) + 1)) wx) := Lib.hid fun v2 wx h g => ⟨k + 1, by omega, by go_num, h, g⟩
      unfold one4 onC at HF
      simp only at HF
      have hl := cellsC_len (onC C) k
      unfold onC at hown hl
      generalize cellsC (fun j => (⟨(C j).id, (C j).wt, (C j).ms, true⟩ : Cd)) k = U at *
      have hsz := hb.size
      generalize C k = ck at *
      obtain ⟨ki, kw, km, kr⟩ := ck
      simp only at x0 x1 x2 x3 HF
      clear C1 C2 C3 C4 C5 hI
      have hb2 := (hb.alloc hsz (.cells #[.int .i64 ki, .int .u64 kw, .int .u64 (km : Int), .bool true] 35 (0, 0))).alloc (by simp; omega) (.cells #[.int .i64 ki, .int .u64 kw, .int .u64 (km : Int), .bool true] 35 (0, 0))
      have hnew : ((wr.alloc (.cells #[.int .i64 ki, .int .u64 kw, .int .u64 (km : Int), .bool true] 35 (0, 0))).alloc (.cells #[.int .i64 ki, .int .u64 kw, .int .u64 (km : Int), .bool true] 35 (0, 0))).heap[wr.heap.size + 1]? = some (.cells #[.int .i64 ki, .int .u64 kw, .int .u64 (km : Int), .bool true] 35 (0, 0)) := by
        have := heap_alloc_new (wr.alloc (.cells #[.int .i64 ki, .int .u64 kw, .int .u64 (km : Int), .bool true] 35 (0, 0))) (.cells #[.int .i64 ki, .int .u64 kw, .int .u64 (km : Int), .bool true] 35 (0, 0))
        simpa using this
      obtain ⟨c0, c1, c2, c3, cz⟩ := four (heap_alloc_new wr (.cells #[.int .i64 ki, .int .u64 kw, .int .u64 (km : Int), .bool true] 35 (0, 0)))
      go_wp2_with (at_builtin; refine wpList_append_own _ rfl (.tmp 38) (.tmp 40) 22 rfl w'.heap.size 35 i0 _ 4 32 Try.underlying22 hi hz0 hz1 hz2 rfl (by decide) _ _ _ rfl ((hown.alloc _).alloc _) ⟨wr.heap.size + 1, 0, none⟩ 1 1 [.int .i64 ki, .int .u64 kw, .int .u64 (km : Int), .bool true] rfl rfl (World.news_of_block hnew) (by simp [Value.oneCell']) (by simp only [maxLen]; omega) (by omega) (by simp; omega) ?_; intro v' w4 hown4 hgrow4 _; have hb4 := hb2.grown hgrow4 (by simp; omega) (fun j hj => (hown.lt j hj).1))
      go_roundg (gk - 1)
      case measure => omega
      case rel => exact HF.out _ _ hown4 hb4
    · have h3 : ¬ (k : Int) < l := by omega
      obtain rfl : k = l := by omega
      obtain ⟨ao, cp, rfl, hcs⟩ := own_cs hown
      have HCS := Lib.hid hcs
      have C4' := Lib.hid (fun w h => C4.out ao cp w h)
      have hgb := fresh_trans hg hb
      replace hI := Lib.hid (hI.out.fresh hb)
      clear hown hcs hb hg C4
      have KP : ∀ w2 w3, Below w2.heap.size w2 w3 → True := fun _ _ _ => trivial
      unfold U64 at hf ht
      rcases Int.lt_trichotomy f t with hab | rfl | hab
      · have e1 : max f t = t := by omega
        have e2 : min f t = f := by omega
        rw [e1, e2] at C1
        go_wp2_with (go_at_call 11; first
          | ((with_reducible refine (C2.out _).mono ?_); rintro e w2 ⟨rfl, hg1⟩; replace hI := Lib.hid (hI.out.fresh hg1); replace HCS := Lib.hid (HCS.out.fresh hg1); replace hgb := fresh_trans hgb hg1; clear hg1)
          | ((with_reducible refine (C3.out _ hI.out).mono ?_); rintro e w2 ⟨rfl, hg1⟩; replace hI := Lib.hid (hI.out.fresh hg1); replace HCS := Lib.hid (HCS.out.fresh hg1); replace hgb := fresh_trans hgb hg1; clear hg1)
          | ((with_reducible refine (C5.out _ hI.out).mono ?_); rintro e w2 ⟨rfl, hg1⟩; replace hI := Lib.hid (hI.out.fresh hg1); replace HCS := Lib.hid (HCS.out.fresh hg1); replace hgb := fresh_trans hgb hg1; clear hg1)
          | ((with_reducible refine (C1.out _ hI.out).mono ?_); rintro e w2 ⟨rfl, hg1⟩; replace hI := Lib.hid (hI.out.fresh hg1); replace HCS := Lib.hid (HCS.out.fresh hg1); replace hgb := fresh_trans hgb hg1; clear hg1)
          | ((with_reducible refine (C4'.out _ HCS.out).mono ?_); rintro e w2 ⟨rfl, hg1⟩; replace hI := Lib.hid (hI.out.fresh hg1); replace HCS := Lib.hid (HCS.out.fresh hg1); replace hgb := fresh_trans hgb hg1; clear hg1))
        all_goals first | (exfalso; omega) | (go_ret; exact yes_of rfl hgb)
      · have e1 : max f f = f := by omega
        have e2 : min f f = f := by omega
        rw [e1, e2] at C1
        go_wp2_with (go_at_call 11; first
          | ((with_reducible refine (C2.out _).mono ?_); rintro e w2 ⟨rfl, hg1⟩; replace hI := Lib.hid (hI.out.fresh hg1); replace HCS := Lib.hid (HCS.out.fresh hg1); replace hgb := fresh_trans hgb hg1; clear hg1)
          | ((with_reducible refine (C3.out _ hI.out).mono ?_); rintro e w2 ⟨rfl, hg1⟩; replace hI := Lib.hid (hI.out.fresh hg1); replace HCS := Lib.hid (HCS.out.fresh hg1); replace hgb := fresh_trans hgb hg1; clear hg1)
          | ((with_reducible refine (C5.out _ hI.out).mono ?_); rintro e w2 ⟨rfl, hg1⟩; replace hI := Lib.hid (hI.out.fresh hg1); replace HCS := Lib.hid (HCS.out.fresh hg1); replace hgb := fresh_trans hgb hg1; clear hg1)
          | ((with_reducible refine (C1.out _ hI.out).mono ?_); rintro e w2 ⟨rfl, hg1⟩; replace hI := Lib.hid (hI.out.fresh hg1); replace HCS := Lib.hid (HCS.out.fresh hg1); replace hgb := fresh_trans hgb hg1; clear hg1)
          | ((with_reducible refine (C4'.out _ HCS.out).mono ?_); rintro e w2 ⟨rfl, hg1⟩; replace hI := Lib.hid (hI.out.fresh hg1); replace HCS := Lib.hid (HCS.out.fresh hg1); replace hgb := fresh_trans hgb hg1; clear hg1))
        all_goals first | (exfalso; omega) | (go_ret; exact yes_of rfl hgb)
      · have e1 : max f t = f := by omega
        have e2 : min f t = t := by omega
        rw [e1, e2] at C1
        go_wp2_with (go_at_call 11; first
          | ((with_reducible refine (C2.out _).mono ?_); rintro e w2 ⟨rfl, hg1⟩; replace hI := Lib.hid (hI.out.fresh hg1); replace HCS := Lib.hid (HCS.out.fresh hg1); replace hgb := fresh_trans hgb hg1; clear hg1)
          | ((with_reducible refine (C3.out _ hI.out).mono ?_); rintro e w2 ⟨rfl, hg1⟩; replace hI := Lib.hid (hI.out.fresh hg1); replace HCS := Lib.hid (HCS.out.fresh hg1); replace hgb := fresh_trans hgb hg1; clear hg1)
          | ((with_reducible refine (C5.out _ hI.out).mono ?_); rintro e w2 ⟨rfl, hg1⟩; replace hI := Lib.hid (hI.out.fresh hg1); replace HCS := Lib.hid (HCS.out.fresh hg1); replace hgb := fresh_trans hgb hg1; clear hg1)
          | ((with_reducible refine (C1.out _ hI.out).mono ?_); rintro e w2 ⟨rfl, hg1⟩; replace hI := Lib.hid (hI.out.fresh hg1); replace HCS := Lib.hid (HCS.out.fresh hg1); replace hgb := fresh_trans hgb hg1; clear hg1)
          | ((with_reducible refine (C4'.out _ HCS.out).mono ?_); rintro e w2 ⟨rfl, hg1⟩; replace hI := Lib.hid (hI.out.fresh hg1); replace HCS := Lib.hid (HCS.out.fresh hg1); replace hgb := fresh_trans hgb hg1; clear hg1))
        all_goals first | (exfalso; omega) | (go_ret; exact yes_of rfl hgb)
end Go.Proofs.Ytjbhighfajdfhaa.Pull
