/- The walks of ShareGrows, ShareSums, ShareScales. Conditions: each argument is a number of its kind. -/
import Derived.Test.YtkegbagmgjlniaaShareLaws
namespace Go.Proofs.Ytkegbagmgjlniaa.Share
open Go.ChangeShapes Go.WideShapes Go.ChangeAt Go.RowKit Wide
set_option linter.unusedVariables false
set_option linter.unusedSimpArgs false

theorem hold_id {x : Int} (h1 : 2 < hold x) (h2 : hold x < 262144) : hold x = x := by
  unfold hold at *
  by_cases c1 : x < 2
  · rw [if_pos c1] at h1; omega
  · rw [if_neg c1] at *
    by_cases c2 : 262144 < x
    · rw [if_pos c2] at h2; omega
    · rw [if_neg c2]
/-- Shares over loads, none of which is held. -/
theorem parts {z : Nat → Int} {s a : Int} {n : Nat} (a1 : 0 < a) (h : ∀ j, j < n → 2 < wt s (z j) a ∧ wt s (z j) a < 262144) :
    sum (fun j => wt s (z j) a) n * a ≤ s * sum z n ∧ s * sum z n ≤ (sum (fun j => wt s (z j) a) n + n) * a - n := by
  induction n with
  | zero => simp [sum]
  | succ n ih =>
    obtain ⟨i1, i2⟩ := ih fun j hj => h j (by omega)
    obtain ⟨h1, h2⟩ := h n (by omega)
    have e : wt s (z n) a = s * z n / a := by
      have hw : wt s (z n) a = hold (s * z n / a) := if_neg (by omega)
      rw [hw] at h1 h2 ⊢
      exact hold_id h1 h2
    have k1 := Int.emod_add_mul_ediv (s * z n) a
    have k2 := Int.emod_nonneg (s * z n) (b := a) (by omega)
    have k3 := Int.emod_lt_of_pos (s * z n) (b := a) a1
    simp only [sum]
    rw [e, Int.add_mul, Int.mul_add, show ((n + 1 : Nat) : Int) = n + 1 from rfl, Int.add_mul, Int.add_mul, Int.add_mul, Int.one_mul, Int.mul_comm (s * z n / a) a]
    rw [Int.add_mul] at i2
    omega
theorem parts_end {z : Nat → Int} {s : Int} {n : Nat} (n1 : 0 < n) (a1 : 0 < sum z n) (h : ∀ j, j < n → 2 < wt s (z j) (sum z n) ∧ wt s (z j) (sum z n) < 262144) :
    sum (fun j => wt s (z j) (sum z n)) n ≤ s ∧ s < sum (fun j => wt s (z j) (sum z n)) n + n := by
  obtain ⟨h1, h2⟩ := parts a1 h
  constructor
  · exact Int.le_of_mul_le_mul_right h1 a1
  · refine Int.lt_of_mul_lt_mul_right (a := sum z n) ?_ (Int.le_of_lt a1)
    omega

def OwnU (B : Nat) (w : World) (v : Value) (k : Nat) (f : Nat → Int) : Prop := w.ownsRow B 22 1 v k (us f k)
theorem keep {w w' : World} {B : Nat} {e : TypeId} {s : Nat} {v : Value} {n : Nat} {xs : List Value} {o : Obj} {row : Option Nat} (h : w.ownsRow B e s v n xs) (hg : (w.alloc o).grownBy w' row) (hne : ∀ j, v.ownBlock = some j → row ≠ some j) : w'.ownsRow B e s v n xs := by
  refine ⟨h.1, ?_⟩
  rcases h.2 with h1 | ⟨g, cap, cur, rfl, h0, hg', h1⟩
  · exact .inl h1
  · exact .inr ⟨g, cap, cur, rfl, h0, by rw [hg.block g (by simp; have := lt_of hg'; omega) (fun e => hne g rfl e.symm), Below.heap_alloc _ _ _ (lt_of hg'), hg'], h1⟩
theorem sep {v1 v2 : Value} {g n c H : Nat} (hs : ∀ j, v1.ownBlock = some j → v2.ownBlock ≠ some j) (hat : v1.ownBlock = some g ∨ g = H) (hlt : ∀ j, v2.ownBlock = some j → j < H) :
    ∀ j, (Value.slice (some ⟨g, 0, none⟩) n c).ownBlock = some j → v2.ownBlock ≠ some j := by
  intro j hj
  simp [Value.ownBlock] at hj
  subst hj
  rcases hat with h | rfl
  · exact hs _ h
  · intro h; have := hlt _ h; omega
theorem sep_sym {v1 v2 : Value} (hs : ∀ j, v1.ownBlock = some j → v2.ownBlock ≠ some j) : ∀ j, v2.ownBlock = some j → v1.ownBlock ≠ some j := fun j h1 h2 => hs j h2 h1

def LoadI (z : Nat → Int) (n : Nat) (w : World) (left : Nat) (t6 t7 t8 : Value) (wr : World) : Prop :=
  ∃ k : Nat, left + k = n ∧ t7 = .int .u64 (sum z k) ∧ t8 = .int .i64 k ∧ OwnU w.heap.size wr t6 k z ∧ Below w.heap.size w wr
def AddI (f : Nat → Int) (n : Nat) (w : World) (left : Nat) (t11 t12 : Value) (wr : World) : Prop :=
  ∃ k : Nat, left + k = n ∧ t11 = .int .u64 (sum f k) ∧ t12 = .int .i64 k ∧ (∀ j, j < k → 2 < f j ∧ f j < 262144) ∧ Below w.heap.size w wr

set_option maxRecDepth 100000 in
set_option maxHeartbeats 2000000 in
theorem sumsLaw (s : Int) (v : Option Addr) (n cap : Nat) (z : Nat → Int) (w : World) (s0 : 0 ≤ s) (s1 : s ≤ 4294967295) (hn : n ≤ 9223372036854775807) (hz : ∀ j, j < n → 0 ≤ z j ∧ z j ≤ 4294967295) (hc : Lies .u32 v n z w) :
    Calls Try.prog 7 #[.int .u32 s, .slice v n cap] w (Yes w) := by
  have S := Lib.hid (fun w => shown w)
  have hg := Below.refl w.heap.size w
  have HZ := Lib.hid hz
  have HC := Lib.hid hc
  clear hz hc
  obtain ⟨i0, hi, hz0, hz1, hz2⟩ := info_parts infoU
  by_cases h0 : n = 0
  · have h0' : ((n : Int) == 0) = true := by simp [h0]
    clear h0
    go_enter Try.func7, Try.ntmps7
    go_wp2_with (go_at_call 9; refine (S.out _).mono ?_; rintro e w' ⟨rfl, hg1⟩; replace hg := fresh_trans hg hg1; clear hg1)
    go_ret
    exact yes_of rfl hg
  have h0' : ((n : Int) == 0) = false := by simpa using h0
  by_cases h64 : (64 : Int) < n
  · go_enter Try.func7, Try.ntmps7
    go_wp2_with (go_at_call 9; refine (S.out _).mono ?_; rintro e w' ⟨rfl, hg1⟩; replace hg := fresh_trans hg hg1; clear hg1)
    go_ret
    exact yes_of rfl hg
  have hN := Lib.hid (show 0 < n by omega)
  have t0 := Lib.hid (sum_pos (n := n) (fun j hj => (HZ.out j hj).1))
  have te : tot z n = sum z n := by
    have := tot_eq (n := n) (fun j hj => (HZ.out j hj).1)
    have := sum_bd (n := n) (fun j hj => (HZ.out j hj).2)
    omega
  have TE := Lib.hid te
  clear te h0
  go_enter Try.func7, Try.ntmps7
  go_wp2_with (go_at_call 9; refine (S.out _).mono ?_; rintro e w1 ⟨rfl, hg1⟩; replace hg := fresh_trans hg hg1; clear hg1)
  replace HC := Lib.hid (HC.out.fresh hg)
  go_loopg [6, 7, 8] n (fun left t6 t7 t8 wr => LoadI z n w1 left t6 t7 t8 wr)
  case atStart => exact ⟨0, by omega, rfl, rfl, World.ownsRow_nil _ _ _ _, Below.refl _ _⟩
  case round =>
    obtain ⟨k, hk, rfl, rfl, hown, hb⟩ := hrel
    have e0 := sum_pos (n := k) (fun j hj => (HZ.out j (by omega)).1)
    have e1 := sum_bd (n := k) (fun j hj => (HZ.out j (by omega)).2)
    by_cases hlt : k < n
    · have h3 : (k : Int) < n := by omega
      obtain ⟨b, o, rfl, hbl, hcl⟩ := HC.out k hlt
      replace hcl := (hb.cell hbl).trans hcl
      obtain ⟨z0, z1⟩ := HZ.out k hlt
      have HF := Lib.hid (fun (v' : Value) (w2 : World) (h : w2.ownsRow w1.heap.size 22 1 v' (k + 1) (us z k ++ [.int .u64 (z k)])) (g : Below w1.heap.size w1 w2) => (show LoadI z n w1 (gk - 1) v' (.int .u64 (sum z k + z k)) (.int .i64 ((k : Int) + 1)) w2 from ⟨k + 1, by omega, rfl, by go_num, by unfold OwnU; rw [us_succ]; exact h, g⟩))
      have hl := us_length z k
      unfold OwnU at hown
      generalize us z k = U at *
      generalize sum z k = t at *
      generalize z k = zk at *
      have hzr := hb.size
      have HK := Lib.hid hcl
      have hcl2 : ∀ o', (wr.alloc o').cell? ⟨b, o + k, none⟩ = some (.int .u32 zk) := fun o' => cell_alloc hcl o'
      go_wp2_with (first
        | (at_builtin; refine wpList_append_own _ rfl (.tmp 29) (.tmp 35) 27 rfl w1.heap.size 22 i0 _ 1 8 Try.underlying27 hi hz0 hz1 hz2 rfl (by decide) _ _ _ rfl (hown.alloc _) ⟨wr.heap.size, 0, none⟩ 1 1 [.int .u64 zk] rfl rfl (World.news_of_block (heap_alloc_new wr _)) (by simp [Value.oneCell']) (by simp only [maxLen]; omega) (by omega) (by simp; omega) ?_; intro v' w4 hown4 hgrow4 _; have hb4 := (hb.alloc hzr _).grown hgrow4 (by simp; omega) (fun j hj => (hown.lt j hj).1); have hcl4 := (hb4.cell hbl).trans ((hb.cell hbl).symm.trans HK.out); clear hcl2))
      go_roundg (gk - 1)
      case measure => omega
      case rel => exact HF.out _ _ hown4 hb4
    · have h3 : ¬ (k : Int) < n := by omega
      obtain rfl : k = n := by omega
      obtain ⟨ao, cp, rfl, hl⟩ := lies_own hown
      have HL := Lib.hid hl
      have SP := Lib.hid (fun w h => splits (s % 262144) ao k cp z w (by unfold U64; omega) (by omega) (Lib.hid fun j hj => by have := HZ.out j hj; unfold U64; omega) (Lib.hid h))
      rw [TE.out] at SP
      have FB : Hid (∀ j, 2 ≤ wt (s % 262144) (z j) (sum z k) ∧ wt (s % 262144) (z j) (sum z k) ≤ 262144) := Lib.hid fun j => wt_bd _ _ _
      have FE : Hid ((∀ j, j < k → 2 < wt (s % 262144) (z j) (sum z k) ∧ wt (s % 262144) (z j) (sum z k) < 262144) → 0 < sum z k ∧ sum (fun j => wt (s % 262144) (z j) (sum z k)) k ≤ s % 262144 ∧ s % 262144 < sum (fun j => wt (s % 262144) (z j) (sum z k)) k + k) := Lib.hid fun h => by
        have h1 : 0 < sum z k := by
          by_cases h2 : sum z k = 0
          · have := (h 0 hN.out).1; rw [h2, wt_none] at this; omega
          · omega
        exact ⟨h1, parts_end hN.out h1 h⟩
      have sm : 0 ≤ s % 262144 ∧ s % 262144 < 262144 := by omega
      obtain ⟨m0, m1⟩ := sm
      have hM : s % 262144 = s % 262144 := rfl
      generalize hf : (fun j => wt (s % 262144) (z j) (sum z k)) = f at *
      have hfj : ∀ j, wt (s % 262144) (z j) (sum z k) = f j := fun j => by rw [← hf]
      simp only [hfj] at FB FE
      clear hf hfj
      generalize sum z k = A at *
      have HM := Lib.hid hb
      clear hown hb hl hM
      go_wp2_with (go_at_call 15; refine (SP.out _ HL.out).mono ?_; rintro e w3 ⟨ao3, cp3, rfl, hl3, hg3⟩; replace hl3 := Lib.hid hl3; replace hg := fresh_trans hg (fresh_trans HM.out hg3); clear hg3)
      go_loopg [11, 12] k (fun left t11 t12 wc => AddI f k w3 left t11 t12 wc)
      case atStart => exact ⟨0, by omega, rfl, rfl, fun j hj => by omega, Below.refl _ _⟩
      case round =>
        obtain ⟨i, hi', rfl, rfl, hall, hb⟩ := hrel
        have HA := Lib.hid hall
        clear hall
        have e0 := sum_pos (z := f) (n := i) (fun j hj => by have := FB.out j; omega)
        have e1 := sum_bd (z := f) (n := i) (fun j hj => (FB.out j).2)
        by_cases hlt : i < k
        · have h5 : (i : Int) < k := by omega
          obtain ⟨b, o, rfl, hbl, hcl⟩ := hl3.out i hlt
          replace hcl := (hb.cell hbl).trans hcl
          obtain ⟨f0, f1⟩ := FB.out i
          have HF := Lib.hid (fun (h2 : 2 < f i) (h3 : f i < 262144) => (show AddI f k w3 (gk - 1) (.int .u64 (sum f i + f i)) (.int .i64 ((i : Int) + 1)) wr from ⟨i + 1, by omega, rfl, by go_num, fun j hj => by rcases (by omega : j < i ∨ j = i) with h | rfl; exact HA.out j h; exact ⟨h2, h3⟩, hb⟩))
          have hgb := fresh_trans hg hb
          generalize sum f i = y at *
          generalize f i = x at *
          by_cases x2 : x ≤ 2
          · go_wp2_with fail
            go_ret
            exact yes_of rfl hgb
          · by_cases x3 : 262144 ≤ x
            · go_wp2_with fail
              go_ret
              exact yes_of rfl hgb
            · go_wp2_with fail
              go_roundg (gk - 1)
              case measure => omega
              case rel => exact HF.out (by omega) (by omega)
        · have h5 : ¬ (i : Int) < k := by omega
          obtain rfl : i = k := by omega
          obtain ⟨q1, q2, q3⟩ := FE.out HA.out
          generalize sum f i = y at *
          have hgb := fresh_trans hg hb
          go_wp2_with fail
          go_ret
          exact yes_of (by simp; try omega) hgb
end Go.Proofs.Ytkegbagmgjlniaa.Share
