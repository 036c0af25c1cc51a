/- The law MaskTexts, walked. Conditions: the arguments are of their kinds; the listed table holds what it is listed with. -/
import Derived.Test.YtmeojplfphmpnaaDoorMaskRefT
namespace Go.Proofs.YtmeojplfphmpnaaDoor.Mask
open Go.ChangeShapes Go.WideShapes Go.ChangeAt Go.RowKit
set_option linter.unusedVariables false
set_option linter.unusedSimpArgs false
set_option maxRecDepth 100000

theorem OutI.fresh {B : Nat} {v : Value} {l : List Nat} {w w' : World} (h : OutI B v l w) (hb : Below w.heap.size w w') : OutI B v l w' := by
  obtain ⟨h1, h0 | ⟨g, cap, cur, h2, h3, h4, h5⟩⟩ := h
  · exact ⟨h1, .inl h0⟩
  · exact ⟨h1, .inr ⟨g, cap, cur, h2, h3, by rw [hb.block g (Array.getElem?_eq_some_iff.1 h4).1]; exact h4, h5⟩⟩

set_option maxHeartbeats 4000000 in
theorem texts_as (m : Nat) (p : Int) (f0 c o : Int) (S : ByteArray) (L : List Nat) (b : Bool) (w : World) (hT : Tab w) (hL : L.length ≤ 64) (hc : c = (L.length : Int)) (hf : (L = [] ∧ f0 = -1) ∨ (L ≠ [] ∧ ∀ x : Nat, L[0]? = some x → f0 = (x : Int)))
    (DL : Hid (∀ w, Calls Tryd.prog 13 #[.int .u64 m] w (IsRow L w)))
    (T1 : Hid (∀ w, Tab w → Calls Tryd.prog 14 #[.int .u64 m] w (fun e w' => e = .returned (.string S) ∧ Below w.heap.size w w')))
    (T2 : Hid (∀ w, Calls Tryd.prog 15 #[.int .u64 m] w (fun e w' => e = .returned (.string S) ∧ Below w.heap.size w w')))
    (ML : Hid (∀ w, Tab w → Calls Tryd.prog 17 #[.int .u64 m] w (IsList L w)))
    (H1 : Hid (∀ w, Calls Tryd.prog 18 #[.int .u64 m, .int .i64 p] w (IsB b w))) (H2 : Hid (∀ w, Calls Tryd.prog 19 #[.int .u64 m, .int .i64 p] w (IsB b w)))
    (O1 : Hid (∀ w, Calls Tryd.prog 20 #[.int .u64 m, .int .i64 p] w (fun e w' => e = .returned (.int .u64 o) ∧ w' = w))) (O2 : Hid (∀ w, Calls Tryd.prog 21 #[.int .u64 m, .int .i64 p] w (fun e w' => e = .returned (.int .u64 o) ∧ w' = w)))
    (CT : Hid (∀ w, Calls Tryd.prog 22 #[.int .u64 m] w (IsI c w))) (FS : Hid (∀ w, Tab w → Calls Tryd.prog 23 #[.int .u64 m] w (IsI f0 w))) :
    Calls Tryd.prog 4 #[.int .u64 m, .int .i64 p] w (IsYes w) := by
  have A0 := Lib.hid (fun (w : World) (h : Tab w) => awake w h)
  have hg := Below.refl w.heap.size w
  subst hc
  have hf' := Lib.hid hf
  clear hf
  go_enter Tryd.func4, Tryd.ntmps4
  go_wp2_with (go_at_call 10; refine (A0.out _ (hT.fresh hg)).mono ?_; rintro e w1 ⟨rfl, hg1⟩; replace hg := fresh_trans hg hg1; clear hg1)
  refine (DL.out _).mono ?_; rintro e w2 ⟨v, rfl, HO, hg1⟩; replace hg := fresh_trans hg hg1; clear hg1
  have K : (v = .slice none 0 0 ∧ ((L.length : Int) == 0) = true ∧ L.length = 0 ∧ f0 = -1) ∨ (∃ g cap, v = .slice (some ⟨g, 0, none⟩) L.length cap ∧ ((L.length = 0 ∧ f0 = -1) ∨ (0 < L.length ∧ ∃ x : Nat, w2.cell? ⟨g, 0, none⟩ = some (.int .i64 (x : Int)) ∧ f0 = (x : Int)))) := by
    rcases hf'.out with ⟨h1, h2⟩ | ⟨h1, h2⟩
    · subst h1
      obtain ⟨h3, ⟨h4, h5⟩ | ⟨g, cap, cur, h4, _⟩⟩ := HO
      · exact .inl ⟨h4, rfl, rfl, h2⟩
      · exact .inr ⟨g, cap, h4, .inl ⟨rfl, h2⟩⟩
    · obtain ⟨g, cap, rfl⟩ := HO.shape h1
      have hlen : 0 < L.length := List.length_pos_iff.2 h1
      refine .inr ⟨g, cap, rfl, .inr ⟨hlen, L[0], ?_, h2 _ (List.getElem?_eq_getElem hlen)⟩⟩
      exact HO.lies.2 0 _ (List.getElem?_eq_getElem hlen)
  have II := Lib.hid (fun (g1 cap1 : Nat) (W : World) (H : Lies g1 L W) (H2 : OutI w1.heap.size v L W) => ints g1 cap1 v L W w1.heap.size H H2 hL)
  have HO' := Lib.hid HO
  clear HO hf'
  rcases K with ⟨rfl, hn0, hn, rfl⟩ | ⟨g, cap, rfl, ⟨hn, rfl⟩ | ⟨hn, x, hx, rfl⟩⟩
  · obtain rfl : L = [] := List.eq_nil_of_length_eq_zero hn
    clear hn hn0
    simp only [List.length_nil] at *
    go_wp2_with (first
      | (go_at_call 14; refine (T1.out _ (hT.fresh hg)).mono ?_; rintro e w3 ⟨rfl, hg3⟩; replace hg := fresh_trans hg hg3)
      | (go_at_call 15; refine (T2.out _).mono ?_; rintro e w4 ⟨rfl, hg4⟩; replace hg := fresh_trans hg hg4)
      | (go_at_call 17; refine (ML.out _ (hT.fresh hg)).mono ?_; rintro e w5 ⟨g5, cap5, rfl, L5, hg5⟩; replace hg := fresh_trans hg hg5)
      | (go_at_call 16; refine (II.out _ _ _ L5 (((HO'.out.fresh hg3).fresh hg4).fresh hg5)).mono ?_; rintro e w6 ⟨rfl, hg6⟩; replace hg := fresh_trans hg hg6)
      | (go_at_call 18; refine (H1.out _).mono ?_; rintro e w7 ⟨rfl, rfl⟩)
      | (go_at_call 19; refine (H2.out _).mono ?_; rintro e w7 ⟨rfl, rfl⟩)
      | (go_at_call 20; refine (O1.out _).mono ?_; rintro e w7 ⟨rfl, rfl⟩)
      | (go_at_call 21; refine (O2.out _).mono ?_; rintro e w7 ⟨rfl, rfl⟩)
      | (go_at_call 22; refine (CT.out _).mono ?_; rintro e w7 ⟨rfl, rfl⟩)
      | (go_at_call 23; refine (FS.out _ (hT.fresh hg)).mono ?_; rintro e w7 ⟨rfl, rfl⟩))
    go_ret
    exact ⟨by simp, hg⟩
  · obtain rfl : L = [] := List.eq_nil_of_length_eq_zero hn
    clear hn
    simp only [List.length_nil] at *
    go_wp2_with (first
      | (go_at_call 14; refine (T1.out _ (hT.fresh hg)).mono ?_; rintro e w3 ⟨rfl, hg3⟩; replace hg := fresh_trans hg hg3)
      | (go_at_call 15; refine (T2.out _).mono ?_; rintro e w4 ⟨rfl, hg4⟩; replace hg := fresh_trans hg hg4)
      | (go_at_call 17; refine (ML.out _ (hT.fresh hg)).mono ?_; rintro e w5 ⟨g5, cap5, rfl, L5, hg5⟩; replace hg := fresh_trans hg hg5)
      | (go_at_call 16; refine (II.out _ _ _ L5 (((HO'.out.fresh hg3).fresh hg4).fresh hg5)).mono ?_; rintro e w6 ⟨rfl, hg6⟩; replace hg := fresh_trans hg hg6)
      | (go_at_call 18; refine (H1.out _).mono ?_; rintro e w7 ⟨rfl, rfl⟩)
      | (go_at_call 19; refine (H2.out _).mono ?_; rintro e w7 ⟨rfl, rfl⟩)
      | (go_at_call 20; refine (O1.out _).mono ?_; rintro e w7 ⟨rfl, rfl⟩)
      | (go_at_call 21; refine (O2.out _).mono ?_; rintro e w7 ⟨rfl, rfl⟩)
      | (go_at_call 22; refine (CT.out _).mono ?_; rintro e w7 ⟨rfl, rfl⟩)
      | (go_at_call 23; refine (FS.out _ (hT.fresh hg)).mono ?_; rintro e w7 ⟨rfl, rfl⟩))
    go_ret
    exact ⟨by simp, hg⟩
  · have hn' : (0 : Int) < (L.length : Int) := by omega
    go_wp2_with (first
      | (go_at_call 14; refine (T1.out _ (hT.fresh hg)).mono ?_; rintro e w3 ⟨rfl, hg3⟩; replace hg := fresh_trans hg hg3)
      | (go_at_call 15; refine (T2.out _).mono ?_; rintro e w4 ⟨rfl, hg4⟩; replace hg := fresh_trans hg hg4)
      | (go_at_call 17; refine (ML.out _ (hT.fresh hg)).mono ?_; rintro e w5 ⟨g5, cap5, rfl, L5, hg5⟩; replace hg := fresh_trans hg hg5)
      | (go_at_call 16; refine (II.out _ _ _ L5 (((HO'.out.fresh hg3).fresh hg4).fresh hg5)).mono ?_; rintro e w6 ⟨rfl, hg6⟩; replace hg := fresh_trans hg hg6)
      | (go_at_call 18; refine (H1.out _).mono ?_; rintro e w7 ⟨rfl, rfl⟩)
      | (go_at_call 19; refine (H2.out _).mono ?_; rintro e w7 ⟨rfl, rfl⟩)
      | (go_at_call 20; refine (O1.out _).mono ?_; rintro e w7 ⟨rfl, rfl⟩)
      | (go_at_call 21; refine (O2.out _).mono ?_; rintro e w7 ⟨rfl, rfl⟩)
      | (go_at_call 22; refine (CT.out _).mono ?_; rintro e w7 ⟨rfl, rfl⟩)
      | (go_at_call 23; refine (FS.out _ (hT.fresh hg)).mono ?_; rintro e w7 ⟨rfl, rfl⟩))
    go_ret
    exact ⟨by simp, hg⟩

theorem texts (m : Nat) (p : Int) (hm : m < 18446744073709551616) (hp : -9223372036854775808 ≤ p ∧ p ≤ 9223372036854775807) (w : World) (hT : Tab w) : Calls Tryd.prog 4 #[.int .u64 m, .int .i64 p] w (IsYes w) := by
  have hl : (lst m).length ≤ 64 := by
    have := List.length_filter_le m.testBit (List.range 64)
    simpa [lst] using this
  refine texts_as m p (fst m) (ones m : Int) (onl m p : Int) ⟨(text m).toArray⟩ (lst m) (has' m p) w hT hl (by rw [ones_lst]) ?_ (Lib.hid (fun w => docList m hm w)) (Lib.hid (fun w h => Text m hm w h)) (Lib.hid (fun w => docText m hm w))
    (Lib.hid (fun w h => List_ m hm w h)) (Lib.hid (fun w => has m p hm w)) (Lib.hid (fun w => docHas m p hm w)) (Lib.hid (fun w => only m p hm w)) (Lib.hid (fun w => docOnly m p hm hp w)) (Lib.hid (fun w => count m hm w)) (Lib.hid (fun w h => first m hm w h))
  by_cases h0 : m = 0
  · subst h0
    exact .inl ⟨by decide, rfl⟩
  · obtain ⟨f1, f2, f3⟩ := tz_spec hm h0
    have hh := lst_head f1 f2 f3
    refine .inr ⟨fun h => ?_, fun x hx => ?_⟩
    · rw [h] at hh
      cases hh
    · rw [hx] at hh
      cases hh
      unfold fst
      rw [if_neg h0]
theorem texts' (a b : Int) (ha : (Lit.int .u64 a).wf = true) (hb : (Lit.int .i64 b).wf = true) (w : World) (hT : Tab w) : Calls Tryd.prog 4 #[.int .u64 a, .int .i64 b] w (IsYes w) := by
  obtain ⟨m, rfl, hm⟩ := u64_nat ha
  exact texts m b hm (bounds_i64 hb) w hT
end Go.Proofs.YtmeojplfphmpnaaDoor.Mask
