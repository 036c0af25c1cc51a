/- The walks of LoadMasks and LoadGaps. Conditions: each argument is a number of its kind; a slice has room for what it holds. -/
import Derived.Test.YtijocgpbifgifaaLoadLaws
import Derived.Deep.RegionWith
namespace Go.Proofs.Ytijocgpbifgifaa.Load
open Go.ChangeShapes Go.WideShapes Go.ChangeAt Go.RowKit
set_option linter.unusedVariables false
set_option linter.unusedSimpArgs false

theorem may_none (j : Nat) : may 0 j = false := by unfold may; simp
theorem may_one {k j : Nat} (hk : k < 64) : may (2 ^ k) j = decide (k = j) := by
  unfold may
  rw [Nat.testBit_two_pow]
  by_cases h : k = j
  · subst h; simp [hk]
  · simp [h]
theorem pick_no {S : Nat → Bool} {z : Nat → Int} {n : Nat} (h : ∀ j, j < n → S j = false) : pick S z n = -1 := best_only (pick_best S z n) (.inl ⟨rfl, h⟩)
theorem pick_one {S : Nat → Bool} {z : Nat → Int} {n k : Nat} (h : ∀ j, S j = decide (k = j)) : pick S z n = if k < n then (k : Int) else -1 := by
  by_cases hk : k < n
  · rw [if_pos hk]
    refine best_only (pick_best S z n) (.inr ⟨k, rfl, hk, by rw [h]; simp, fun q hq hS => ?_⟩)
    rw [h] at hS
    obtain rfl : k = q := by simpa using hS
    exact .inr ⟨rfl, Nat.le_refl _⟩
  · rw [if_neg hk]
    exact pick_no fun j hj => by rw [h]; simp; omega

theorem masksLaw (v : Option Addr) (n cap : Nat) (p : Int) (z : Nat → Int) (w : World) (p0 : 0 ≤ p) (p1 : p ≤ 255) (hn : n ≤ 9223372036854775807) (h : In v n cap z w) :
    Calls Try.prog 7 #[.slice v n cap, .int .u8 p] w (Yes w) := by
  have S := Lib.hid (fun w => shown w)
  have hI := Lib.hid h
  have FW := Lib.hid (fun w (h : In v n cap z w) => few' v n cap z w hn h)
  have IL : Hid (∀ w, In v n cap z w → In v (min n 100) cap z w) := Lib.hid fun w h => h.less (by omega)
  have hk : min n 100 ≤ 100 := by omega
  generalize min n 100 = l at *
  obtain ⟨k, hk1, hk2⟩ : ∃ k : Nat, p % 64 = k ∧ k < 64 := ⟨(p % 64).toNat, by omega, by omega⟩
  have hp2 : 2 ^ k < 18446744073709551616 := Nat.pow_lt_pow_right (by decide) (show k < 64 from hk2)
  have e2 : ((2 ^ k : Nat) : Int) = 2 ^ k := by simp
  have L0 : Hid (∀ w, In v l cap z w → Calls Try.prog 13 #[.slice v l cap, .int .u64 0] w (OneB .i64 (-1) w)) := Lib.hid fun w h => by
    have := least v l cap 0 z w (by decide) h
    rwa [show lea z l 0 = -1 from pick_no fun j _ => may_none j] at this
  have I0 : Hid (∀ w, In v l cap z w → Calls Try.prog 15 #[.slice v l cap, .int .u64 0] w (OneB .i64 (-1) w)) := Lib.hid fun w h => by
    have := idle v l cap 0 z w (by decide) h
    rwa [show idl z l 0 = -1 from pick_no fun j _ => by rw [may_none]; rfl] at this
  have B0 : Hid (∀ w, In v l cap z w → Calls Try.prog 11 #[.slice v l cap, .int .i64 (-1), .int .u64 0] w (OneB .i64 (-1) w)) := Lib.hid fun w h => by
    have := busiest v l cap 0 (-1) z w (by decide) h
    rwa [show bus z l (-1) 0 = -1 from pick_no fun j _ => by rw [may_none]; rfl] at this
  have L1 : Hid (∀ w, In v l cap z w → Calls Try.prog 13 #[.slice v l cap, .int .u64 (2 ^ k)] w (OneB .i64 (if k < l then (k : Int) else -1) w)) := Lib.hid fun w h => by
    have := least v l cap (2 ^ k) z w hp2 h
    rwa [show lea z l (2 ^ k) = _ from pick_one fun j => may_one hk2, e2] at this
  have B1 : Hid (∀ w, In v l cap z w → Calls Try.prog 11 #[.slice v l cap, .int .i64 (-1), .int .u64 (2 ^ k)] w (OneB .i64 (if k < l then (k : Int) else -1) w)) := Lib.hid fun w h => by
    have := busiest v l cap (2 ^ k) (-1) z w hp2 h
    rwa [show bus z l (-1) (2 ^ k) = _ from pick_one (k := k) fun j => by rw [may_one hk2, show ((j : Int) == -1) = false by simp]; simp, e2] at this
  have B2 : Hid (∀ w, In v l cap z w → Calls Try.prog 11 #[.slice v l cap, .int .i64 (k : Int), .int .u64 (2 ^ k)] w (OneB .i64 (-1) w)) := Lib.hid fun w h => by
    have := busiest v l cap (2 ^ k) k z w hp2 h
    rwa [show bus z l k (2 ^ k) = -1 from pick_no fun j _ => by rw [may_one hk2]; by_cases hj : k = j <;> simp [hj], e2] at this
  have hg := Below.refl w.heap.size w
  have hx : IntKind.u64.wrap (2 ^ k) = 2 ^ k := by rw [← e2, IntKind.wrap_u64]; exact Int.emod_eq_of_lt (Int.natCast_nonneg _) (by omega)
  clear h
  by_cases hl : k < l
  · have hl' : (k : Int) < l := by omega
    rw [if_pos hl] at L1 B1
    go_enter Try.func7, Try.ntmps7
    go_wp2_with (first
      | (go_at_call 9; refine (S.out _).mono ?_; rintro e w' ⟨rfl, hg1⟩; replace hI := Lib.hid (hI.out.fresh hg1); replace hg := fresh_trans hg hg1; clear hg1)
      | (go_at_call 10; refine (FW.out _ hI.out).mono ?_; rintro e w' ⟨rfl, rfl⟩; replace hI := Lib.hid (IL.out _ hI.out))
      | (go_at_call 15; refine (I0.out _ hI.out).mono ?_; rintro e w' ⟨rfl, hg1⟩; replace hI := Lib.hid (hI.out.fresh hg1); replace hg := fresh_trans hg hg1; clear hg1)
      | (go_at_call 13; first | ((with_reducible refine (L0.out _ hI.out).mono ?_); rintro e w' ⟨rfl, hg1⟩; replace hI := Lib.hid (hI.out.fresh hg1); replace hg := fresh_trans hg hg1; clear hg1) | ((with_reducible refine (L1.out _ hI.out).mono ?_); rintro e w' ⟨rfl, hg1⟩; replace hI := Lib.hid (hI.out.fresh hg1); replace hg := fresh_trans hg hg1; clear hg1))
      | (go_at_call 11; first | ((with_reducible refine (B0.out _ hI.out).mono ?_); rintro e w' ⟨rfl, hg1⟩; replace hI := Lib.hid (hI.out.fresh hg1); replace hg := fresh_trans hg hg1; clear hg1) | ((with_reducible refine (B1.out _ hI.out).mono ?_); rintro e w' ⟨rfl, hg1⟩; replace hI := Lib.hid (hI.out.fresh hg1); replace hg := fresh_trans hg hg1; clear hg1) | ((with_reducible refine (B2.out _ hI.out).mono ?_); rintro e w' ⟨rfl, hg1⟩; replace hI := Lib.hid (hI.out.fresh hg1); replace hg := fresh_trans hg hg1; clear hg1)))
    go_ret
    exact yes_of (by simp) hg
  · have hl' : ¬ (k : Int) < l := by omega
    rw [if_neg hl] at L1 B1
    go_enter Try.func7, Try.ntmps7
    go_wp2_with (first
      | (go_at_call 9; refine (S.out _).mono ?_; rintro e w' ⟨rfl, hg1⟩; replace hI := Lib.hid (hI.out.fresh hg1); replace hg := fresh_trans hg hg1; clear hg1)
      | (go_at_call 10; refine (FW.out _ hI.out).mono ?_; rintro e w' ⟨rfl, rfl⟩; replace hI := Lib.hid (IL.out _ hI.out))
      | (go_at_call 15; refine (I0.out _ hI.out).mono ?_; rintro e w' ⟨rfl, hg1⟩; replace hI := Lib.hid (hI.out.fresh hg1); replace hg := fresh_trans hg hg1; clear hg1)
      | (go_at_call 13; first | ((with_reducible refine (L0.out _ hI.out).mono ?_); rintro e w' ⟨rfl, hg1⟩; replace hI := Lib.hid (hI.out.fresh hg1); replace hg := fresh_trans hg hg1; clear hg1) | ((with_reducible refine (L1.out _ hI.out).mono ?_); rintro e w' ⟨rfl, hg1⟩; replace hI := Lib.hid (hI.out.fresh hg1); replace hg := fresh_trans hg hg1; clear hg1))
      | (go_at_call 11; first | ((with_reducible refine (B0.out _ hI.out).mono ?_); rintro e w' ⟨rfl, hg1⟩; replace hI := Lib.hid (hI.out.fresh hg1); replace hg := fresh_trans hg hg1; clear hg1) | ((with_reducible refine (B1.out _ hI.out).mono ?_); rintro e w' ⟨rfl, hg1⟩; replace hI := Lib.hid (hI.out.fresh hg1); replace hg := fresh_trans hg hg1; clear hg1) | ((with_reducible refine (B2.out _ hI.out).mono ?_); rintro e w' ⟨rfl, hg1⟩; replace hI := Lib.hid (hI.out.fresh hg1); replace hg := fresh_trans hg hg1; clear hg1)))
    go_ret
    exact yes_of (by simp) hg

theorem infoU : (Try.prog.info? 23).map (fun i => (i.zero, i.size, i.bytes)) = some (some (.int .u64 0), 1, 8) := by kernel_rfl
theorem info_parts {o : Option TypeInfo} {z : Option Value} {s b : Nat} (h : o.map (fun i => (i.zero, i.size, i.bytes)) = some (z, s, b)) : ∃ i, o = some i ∧ i.zero = z ∧ i.size = s ∧ i.bytes = b := by
  cases o with
  | none => simp at h
  | some i => simp at h; exact ⟨i, rfl, h.1, h.2.1, h.2.2⟩
theorem cell_alloc {w : World} {a : Addr} {v : Value} (h : w.cell? a = some v) (o : Obj) : (w.alloc o).cell? a = some v :=
  (World.cell?_of_block (Below.heap_alloc w o a.block (World.block_lt_of_cell? w a h))).trans h
def us (z : Nat → Int) (n : Nat) : List Value := (List.range n).map fun j => .int .u64 (z j)
theorem us_length (z : Nat → Int) (n : Nat) : (us z n).length = n := by simp [us]
theorem us_succ (z : Nat → Int) (n : Nat) : us z (n + 1) = us z n ++ [.int .u64 (z n)] := by simp [us, List.range_succ]
theorem lies_own {w : World} {B n : Nat} {e : TypeId} {v : Value} {z : Nat → Int} (h : w.ownsRow B e 1 v n (us z n)) : ∃ ao cap, v = .slice ao n cap ∧ Lies ao n z w := by
  rcases h.2 with ⟨e1, e2⟩ | ⟨g, cap, cur, e1, h0, hg, h1⟩
  · exact ⟨none, 0, by rw [e1, e2], fun j hj => by omega⟩
  · refine ⟨some ⟨g, 0, none⟩, cap, e1, fun j hj => ?_⟩
    subst e1
    refine ⟨g, 0, rfl, (h.lt g rfl).2, ?_⟩
    rw [Nat.zero_add, h.cellAt _ (by omega)]
    simp [us, hj]

theorem gap_back {a b : Int} (ha : U64 a) (hb : U64 b) : gap (max a b) (min a b) + min a b = max a b := by unfold gap; split <;> omega
theorem gap_none (a b : Int) : gap (min a b) (max a b) = 0 := by unfold gap; split <;> omega

def BackI (z : Nat → Int) (n : Nat) (w : World) (left : Nat) (t9 t11 : Value) (wr : World) : Prop :=
  ∃ k : Nat, left + k = n ∧ t11 = .int .i64 ((n : Int) - 1 - k) ∧ wr.ownsRow w.heap.size 23 1 t9 k (us (fun j => z (n - 1 - j)) k) ∧ Below w.heap.size w wr

set_option maxRecDepth 100000 in
set_option maxHeartbeats 4000000 in
theorem gapsLaw (v : Option Addr) (n cap : Nat) (a b : Int) (z : Nat → Int) (w : World) (ha : U64 a) (hb : U64 b) (hn : n ≤ 9223372036854775807) (h : In v n cap z w) :
    Calls Try.prog 8 #[.slice v n cap, .int .u64 a, .int .u64 b] w (Yes w) := by
  have S := Lib.hid (fun w => shown w)
  have hI := Lib.hid h
  have FW := Lib.hid (fun w (h : In v n cap z w) => few' v n cap z w hn h)
  have IL : Hid (∀ w, In v n cap z w → In v (min n 100) cap z w) := Lib.hid fun w h => h.less (by omega)
  have hk : min n 100 ≤ 100 := by omega
  have hz := Lib.hid ((h.less (k := min n 100) (by omega)).nums)
  generalize min n 100 = l at *
  obtain ⟨i0, hi, hz0, hz1, hz2⟩ := info_parts infoU
  have B1 := Lib.hid (fun w (h : In v l cap z w) => sums v l cap z w (by omega) (Lib.hid h.nums) (Lib.hid h.lies))
  have B2 : Hid (∀ ao cp w, Lies ao l (fun j => z (l - 1 - j)) w → Calls Try.prog 17 #[.slice ao l cp] w (One .u64 (tot z l) w)) := Lib.hid fun ao cp w hl => by
    have := sums ao l cp (fun j => z (l - 1 - j)) w (by omega) (Lib.hid fun j hj => hz.out _ (by omega)) (Lib.hid hl)
    rwa [tot_back fun j hj => (hz.out j hj).1] at this
  have TP : Hid (∀ j, j < l → z j ≤ tot z l) := Lib.hid fun j hj => tot_part hj (fun j hj => (hz.out j hj).1) (fun j hj => (hz.out j hj).2)
  generalize tot z l = T at *
  have mx : U64 (max a b) := by unfold U64 at *; omega
  have mn : U64 (min a b) := by unfold U64 at *; omega
  have G1 : Hid (∀ x y w, x = max a b → y = min a b → Calls Try.prog 19 #[.int .u64 x, .int .u64 y] w (One .u64 (max a b - min a b) w)) := Lib.hid fun x y w hx hy => by
    subst hx; subst hy
    have := gaps (max a b) (min a b) w mx mn
    rwa [show gap (max a b) (min a b) = max a b - min a b by have := gap_back ha hb; omega] at this
  have G2 : Hid (∀ x y w, x = min a b → y = max a b → Calls Try.prog 19 #[.int .u64 x, .int .u64 y] w (One .u64 0 w)) := Lib.hid fun x y w hx hy => by
    subst hx; subst hy
    have := gaps (min a b) (max a b) w mn mx
    rwa [gap_none] at this
  have hg := Below.refl w.heap.size w
  clear h
  go_enter Try.func8, Try.ntmps8
  go_wp2_with (first
    | (go_at_call 9; refine (S.out _).mono ?_; rintro e w' ⟨rfl, hg1⟩; replace hI := Lib.hid (hI.out.fresh hg1); replace hg := fresh_trans hg hg1; clear hg1)
    | (go_at_call 10; refine (FW.out _ hI.out).mono ?_; rintro e w1 ⟨rfl, rfl⟩; replace hI := Lib.hid (IL.out _ hI.out))
    | (go_at_call 17; refine (B1.out _ hI.out).mono ?_; rintro e w2 ⟨rfl, rfl⟩))
  go_loopg [9, 11] l (fun left t9 t11 wr => BackI z l w' left t9 t11 wr)
  case atStart => exact ⟨0, by omega, by simp, World.ownsRow_nil _ _ _ _, Below.refl _ _⟩
  case round =>
    obtain ⟨k, hk', rfl, hown, hbw⟩ := hrel
    by_cases hlt : k < l
    · obtain ⟨b1, o, rfl, hbl, hcl⟩ := hI.out.lies (l - 1 - k) (by omega)
      replace hcl := (hbw.cell (p := ⟨b1, o + (l - 1 - k), none⟩) hbl).trans hcl
      obtain ⟨z0, z1⟩ := hz.out (l - 1 - k) (by omega)
      have TK := TP.out (l - 1 - k) (by omega)
      have nk : (l : Int) - 1 - k = ((l - 1 - k : Nat) : Int) := by omega
      have nk1 : l - 1 - k < l := by omega
      have HF := Lib.hid (fun (v' : Value) (w2 : World) (h : w2.ownsRow w'.heap.size 23 1 v' (k + 1) (us (fun j => z (l - 1 - j)) k ++ [.int .u64 (z (l - 1 - k))])) (g : Below w'.heap.size w' w2) => (show BackI z l w' (gk - 1) v' (.int .i64 (((l - 1 - k : Nat) : Int) - 1)) w2 from ⟨k + 1, by omega, by rw [← nk]; go_num, by rw [us_succ]; exact h, g⟩))
      have hl := us_length (fun j => z (l - 1 - j)) k
      generalize us (fun j => z (l - 1 - j)) k = U at *
      generalize hzk : z (l - 1 - k) = zk at *
      rw [nk]
      have hk5 : k + 1 ≤ 100 := by omega
      generalize l - 1 - k = m at *
      have q0 : (0 : Int) ≤ m := by omega
      have q1 : (m : Int) < l := by omega
      have q2 : (m : Int) ≤ 100 := by omega
      have q3 : ¬ T < zk := by omega
      clear hzk nk TK
      have hzr := hbw.size
      have HK := Lib.hid hcl
      have hcl2 : ∀ o', (wr.alloc o').cell? ⟨b1, o + m, none⟩ = some (.int .u64 zk) := fun o' => cell_alloc hcl o'
      go_wp2_with (first
        | (at_builtin; refine wpList_append_own _ rfl (.tmp 24) (.tmp 29) 22 rfl w'.heap.size 23 i0 _ 1 8 Try.underlying22 hi hz0 hz1 hz2 rfl (by decide) _ _ _ rfl (hown.alloc _) ⟨wr.heap.size, 0, none⟩ 1 1 [.int .u64 zk] rfl rfl (World.news_of_block (heap_alloc_new wr _)) (by simp [Value.oneCell']) (by simp only [maxLen]; omega) (by omega) (by simp; omega) ?_; intro v' w4 hown4 hgrow4 _; have hb4 := (hbw.alloc hzr _).grown hgrow4 (by simp; omega) (fun j hj => (hown.lt j hj).1); have hcl4 := (hb4.cell hbl).trans ((hbw.cell hbl).symm.trans HK.out); clear hcl2))
      go_roundg (gk - 1)
      case measure => omega
      case rel => exact HF.out _ _ hown4 hb4
    · obtain rfl : k = l := by omega
      have h3 : ¬ (0 : Int) ≤ (k : Int) - 1 - k := by omega
      obtain ⟨ao, cp, rfl, hl⟩ := lies_own hown
      have HL := Lib.hid hl
      have SP := Lib.hid (fun w h => B2.out ao cp w h)
      have hgb := fresh_trans hg hbw
      clear hown hl hbw
      unfold U64 at ha hb
      clear mx mn hI hz IL FW B1 B2 TP
      rcases Int.lt_trichotomy a b with hab | rfl | hab
      · have e1 : max a b = b := by omega
        have e2 : min a b = a := by omega
        rw [e1, e2] at G1 G2
        have e3 : IntKind.u64.wrap (b - a + a) = b := by rw [IntKind.wrap_u64]; omega
        clear e1 e2
        go_wp2_with (first
          | (go_at_call 17; refine (SP.out _ HL.out).mono ?_; rintro e w2 ⟨rfl, rfl⟩)
          | (go_at_call 19; first | ((with_reducible refine (G1.out _ _ _ rfl rfl).mono ?_); rintro e w2 ⟨rfl, rfl⟩) | ((with_reducible refine (G2.out _ _ _ rfl rfl).mono ?_); rintro e w2 ⟨rfl, rfl⟩)))
        all_goals first
          | (exfalso; omega)
          | (go_ret; exact yes_of (by simp) hgb)
      · have e1 : max a a = a := by omega
        have e2 : min a a = a := by omega
        rw [e1, e2] at G1 G2
        have e3 : IntKind.u64.wrap (a - a + a) = a := by rw [IntKind.wrap_u64]; omega
        have e4 : IntKind.u64.wrap a = a := by rw [IntKind.wrap_u64]; omega
        rw [show a - a = 0 by omega] at G1
        clear e1 e2 G2
        have G2 := G1
        go_wp2_with (first
          | (go_at_call 17; refine (SP.out _ HL.out).mono ?_; rintro e w2 ⟨rfl, rfl⟩)
          | (go_at_call 19; first | ((with_reducible refine (G1.out _ _ _ rfl rfl).mono ?_); rintro e w2 ⟨rfl, rfl⟩) | ((with_reducible refine (G2.out _ _ _ rfl rfl).mono ?_); rintro e w2 ⟨rfl, rfl⟩)))
        all_goals first
          | (exfalso; omega)
          | (go_ret; exact yes_of (by simp) hgb)
      · have e1 : max a b = a := by omega
        have e2 : min a b = b := by omega
        rw [e1, e2] at G1 G2
        have e3 : IntKind.u64.wrap (a - b + b) = a := by rw [IntKind.wrap_u64]; omega
        have e4 : ¬ a ≤ b := by omega
        clear e1 e2
        go_wp2_with (first
          | (go_at_call 17; refine (SP.out _ HL.out).mono ?_; rintro e w2 ⟨rfl, rfl⟩)
          | (go_at_call 19; first | ((with_reducible refine (G1.out _ _ _ rfl rfl).mono ?_); rintro e w2 ⟨rfl, rfl⟩) | ((with_reducible refine (G2.out _ _ _ rfl rfl).mono ?_); rintro e w2 ⟨rfl, rfl⟩)))
        all_goals first
          | (exfalso; omega)
          | (go_ret; exact yes_of (by simp) hgb)
end Go.Proofs.Ytijocgpbifgifaa.Load
