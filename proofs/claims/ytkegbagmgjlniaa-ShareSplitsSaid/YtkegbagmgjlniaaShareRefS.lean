/- What Weight and Split of the document's answer for package share return; the walks of ShareWeights and ShareSplits. Conditions: each argument is a number of its kind. -/
import Derived.Test.YtkegbagmgjlniaaShareRef
namespace Go.Proofs.Ytkegbagmgjlniaa.Share
open Go.ChangeShapes Go.WideShapes Go.ChangeAt Go.RowKit Wide
set_option linter.unusedVariables false
set_option linter.unusedSimpArgs false

theorem refWeights (s h a : Int) (w : World) (hs : U64 s) (hh : U64 h) (ha : U64 a) : Calls Try.prog 11 #[.int .u64 s, .int .u64 h, .int .u64 a] w (One .u64 (wt s h a) w) := by
  have ha' := ha
  unfold U64 at ha'
  by_cases h0 : a = 0
  · subst h0
    have W := Lib.hid (wt_none s h)
    go_enter Try.func11, Try.ntmps11
    go_wp2
    go_ret
    exact one_of W.out.symm
  have h0' : (a == 0) = false := by simpa using h0
  have md := Lib.hid (fun w => refDiv s h a w hs hh (show 1 ≤ a by omega) ha'.2)
  obtain ⟨w1, w2⟩ := wt_can hs hh (show 1 ≤ a by omega)
  have W1 := Lib.hid w1
  have W2 := Lib.hid w2
  clear w1 w2
  generalize quo s h a = q at *
  generalize can s h a = c at *
  generalize wt s h a = x at *
  have hd := Lib.hid (fun w => refHolds q w)
  generalize hold q = y at *
  cases c
  · have W := Lib.hid (W2.out rfl)
    clear W1 W2
    go_enter Try.func11, Try.ntmps11
    go_wp2_with (first
      | (go_at_call 18; refine (md.out _).mono ?_; rintro e w1 ⟨rfl, rfl⟩)
      | (go_at_call 13; refine (hd.out _).mono ?_; rintro e w2 ⟨rfl, rfl⟩))
    go_ret
    exact one_of W.out.symm
  · have W := Lib.hid (W1.out rfl)
    clear W1 W2
    go_enter Try.func11, Try.ntmps11
    go_wp2_with (first
      | (go_at_call 18; refine (md.out _).mono ?_; rintro e w1 ⟨rfl, rfl⟩)
      | (go_at_call 13; refine (hd.out _).mono ?_; rintro e w2 ⟨rfl, rfl⟩))
    go_ret
    exact one_of W.out.symm

set_option maxHeartbeats 2000000 in
theorem refSplits (s : Int) (v : Option Addr) (len cap : Nat) (z : Nat → Int) (w : World) (hs : U64 s) (hlen : len ≤ 1000000) (HZ : Hid (∀ j, j < len → U64 (z j))) (HC : Hid (Lies .u64 v len z w)) :
    Calls Try.prog 16 #[.int .u64 s, .slice v len cap] w (Rowed len (fun j => wt s (z j) (tot z len)) w) := by
  obtain ⟨i0, hi, hz0, hz1, hz2⟩ := info_parts infoU
  have T := Lib.hid (fun w h => refSums v len cap z w (by omega) HZ (Lib.hid h))
  have ta : U64 (tot z len) := tot_bd (fun j hj => (HZ.out j hj).1)
  generalize tot z len = t at *
  go_enter Try.func16, Try.ntmps16
  go_wp2_with fail
  go_loopg [5, 6] len (fun left t5 t6 wr => SplitI len (fun j => wt s (z j) t) w left t5 t6 wr)
  case atStart => exact ⟨0, by omega, rfl, World.ownsRow_nil _ _ _ _, Below.refl _ _⟩
  case round =>
    obtain ⟨k, hk, rfl, hown, hb⟩ := hrel
    by_cases hlt : k < len
    · have h3 : (k : Int) < len := by omega
      have HCr := HC.out.fresh hb
      have TT := Lib.hid (T.out (wr.drew) (HCr.fresh (Below.refl _ wr).drew))
      obtain ⟨b, o, rfl, hbl, hc0⟩ := HC.out k hlt
      have hc := (hb.cell (p := ⟨b, o + k, none⟩) hbl).trans hc0
      have HC0 := Lib.hid hc0
      clear hc0
      have CW := Lib.hid (fun w' => refWeights s (z k) t w' hs (HZ.out k hlt) ta)
      have HF := Lib.hid (fun (v' : Value) (w2 : World) (h : w2.ownsRow w.heap.size 22 1 v' (k + 1) (us (fun j => wt s (z j) t) k ++ [.int .u64 (wt s (z k) t)])) (g : Below w.heap.size w w2) => (show SplitI len (fun j => wt s (z j) t) w (gk - 1) v' (.int .i64 ((k : Int) + 1)) w2 from ⟨k + 1, by omega, by go_num, by rw [us_succ]; exact h, g⟩))
      have hl := us_length (fun j => wt s (z j) t) k
      generalize us (fun j => wt s (z j) t) k = U at *
      generalize wt s (z k) t = x at *
      generalize z k = zk at *
      have hzr := hb.size
      have k1 : (0 : Int) ≤ (k : Int) := by omega
      have k2 : (k : Int) ≤ len := by omega
      clear HCr T HC HZ
      go_wp2_with fail
      go_region_held3 (fun w' => w'.cell? ⟨b, o + k, none⟩ = some (.int .u64 zk)) (first | exact hc | exact z0 | go_keep)
        (first
          | (go_at_call 21; refine TT.out.mono ?_; rintro e w3 ⟨rfl, rfl⟩)
          | (go_at_call 11; refine (CW.out _).mono ?_; rintro e w3 ⟨rfl, rfl⟩)
          | (refine step_append_lies _ (by rfl) _ _ _ (by rfl) w.heap.size 22 i0 _ 1 8 Try.underlying27 hi hz0 hz1 hz2 rfl (by decide) _ _ _ (by rfl) (hown.drew.alloc _) ⟨wr.heap.size, 0, none⟩ 1 1 [.int .u64 x] (by rfl) (by rfl) (World.news_of_block (cs := #[.int .u64 x]) (t := 22) (fr := (0, 0)) (heap_alloc_new wr.drew _)) (by simp [Value.oneCell']) (by decide) (by simp only [maxLen]; omega) (by omega) (by show w.heap.size ≤ (wr.alloc _).heap.size; rw [World.size_alloc]; exact Nat.le_succ_of_le hzr) (wr.heap.size + 1) (show (wr.alloc _).heap.size = _ from World.size_alloc _ _) ?_; intro g4 c4 w4 hown4 hgrow4 hat4 hlt4; have hb4 := (hb.alloc hzr _).drew.grown hgrow4 (by show w.heap.size ≤ (wr.alloc _).heap.size; rw [World.size_alloc]; exact Nat.le_succ_of_le hzr) (fun j hj => (hown.lt j hj).1); have z0 := (hb4.cell (p := ⟨b, o + k, none⟩) hbl).trans HC0.out))
      go_wp2_with fail
      go_roundg (gk - 1)
      case measure => omega
      case rel => exact HF.out _ _ hown4 hb4
    · have h3 : ¬ (k : Int) < len := by omega
      obtain rfl : k = len := by omega
      obtain ⟨ao, cp, rfl, hl⟩ := lies_own hown
      have HL := Lib.hid hl
      clear hown hl
      go_wp2_with fail
      go_ret
      exact ⟨ao, cp, rfl, HL.out, hb⟩

theorem weightsLaw (s h a : Int) (w : World) (hs : U64 s) (hh : U64 h) (ha : U64 a) : Calls Try.prog 3 #[.int .u64 s, .int .u64 h, .int .u64 a] w (Yes w) := by
  have S := Lib.hid (fun w => shown w)
  have m1 := Lib.hid (fun w => weights s h a w hs hh ha)
  have m2 := Lib.hid (fun w => refWeights s h a w hs hh ha)
  have m3 := Lib.hid (fun w => holds s w)
  have m4 := Lib.hid (fun w => refHolds s w)
  generalize wt s h a = x at *
  generalize hold s = y at *
  have hg := Below.refl w.heap.size w
  go_enter Try.func3, Try.ntmps3
  go_wp2_with (first
    | (go_at_call 9; refine (S.out _).mono ?_; rintro e w' ⟨rfl, hg1⟩; replace hg := fresh_trans hg hg1; clear hg1)
    | (go_at_call 10; refine (m1.out _).mono ?_; rintro e w' ⟨rfl, hg1⟩; replace hg := fresh_trans hg hg1; clear hg1)
    | (go_at_call 11; refine (m2.out _).mono ?_; rintro e w' ⟨rfl, rfl⟩)
    | (go_at_call 12; refine (m3.out _).mono ?_; rintro e w' ⟨rfl, rfl⟩)
    | (go_at_call 13; refine (m4.out _).mono ?_; rintro e w' ⟨rfl, rfl⟩))
  go_ret
  exact yes_of (by simp) hg

theorem splitsLaw (s : Int) (v : Option Addr) (n cap : Nat) (z : Nat → Int) (w : World) (hs : U64 s) (hn : n ≤ 9223372036854775807) (hz : ∀ j, j < n → U64 (z j)) (hc : Lies .u64 v n z w) :
    Calls Try.prog 4 #[.int .u64 s, .slice v n cap] w (Yes w) := by
  have S := Lib.hid (fun w => shown w)
  have hg := Below.refl w.heap.size w
  by_cases h2 : (200 : Int) < n
  · go_enter Try.func4, Try.ntmps4
    go_wp2_with (go_at_call 9; refine (S.out _).mono ?_; rintro e w' ⟨rfl, hg1⟩; replace hg := fresh_trans hg hg1; clear hg1)
    go_ret
    exact yes_of rfl hg
  have CA := Lib.hid (fun w1 (h : Below w.heap.size w w1) => hc.fresh h)
  have m1 := Lib.hid (fun w h => splits s v n cap z w hs (by omega) (Lib.hid hz) (Lib.hid h))
  have m2 := Lib.hid (fun w h => refSplits s v n cap z w hs (by omega) (Lib.hid hz) (Lib.hid h))
  clear hz hc
  generalize (fun j => wt s (z j) (tot z n)) = f at *
  go_enter Try.func4, Try.ntmps4
  go_wp2_with (first
    | (go_at_call 9; refine (S.out _).mono ?_; rintro e w' ⟨rfl, hg1⟩; replace hg := fresh_trans hg hg1; clear hg1)
    | (go_at_call 15; refine (m1.out _ (CA.out _ hg)).mono ?_; rintro e w2 ⟨ao, cp, rfl, hl2, hg2⟩; replace hl2 := Lib.hid hl2; replace hg := fresh_trans hg hg2; clear hg2)
    | (go_at_call 16; refine (m2.out _ (CA.out _ hg)).mono ?_; rintro e w3 ⟨ao3, cp3, rfl, hl3, hg3⟩; replace hl3 := Lib.hid hl3; replace hl2 := Lib.hid (hl2.out.fresh hg3); replace hg := fresh_trans hg hg3; clear hg3)
    | (go_at_call 14; refine (same _ _ n _ _ f f _ (by omega) hl2 hl3 (Lib.hid fun _ _ => rfl)).mono ?_; rintro e w4 ⟨rfl, hg4⟩; replace hg := fresh_trans hg hg4; clear hg4))
  go_ret
  exact yes_of (by simp) hg
end Go.Proofs.Ytkegbagmgjlniaa.Share
