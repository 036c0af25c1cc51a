/- The walk of FifoSlices. Conditions: each argument is a number of its kind. -/
import Derived.Test.YthphileaaoeamaaFifoGiveR
namespace Go.Proofs.Ythphileaaoeamaa.Fifo
open Go.ChangeShapes Go.WideShapes Go.ChangeAt Go.RowKit Mem
set_option linter.unusedVariables false
set_option linter.unusedSimpArgs false
set_option maxRecDepth 100000

/-- A slice of numbers of a kind, z 0 to z (len - 1). -/
def LiesK (k : IntKind) (v : Option Addr) (len : Nat) (z : Nat → Int) (w : World) : Prop := ∀ j, j < len → ∃ b off, v = some ⟨b, off, none⟩ ∧ b < w.heap.size ∧ w.cell? ⟨b, off + j, none⟩ = some (.int k (z j))
theorem LiesK.fresh {k : IntKind} {v : Option Addr} {len : Nat} {z : Nat → Int} {w w' : World} (h : LiesK k v len z w) (hg : Below w.heap.size w w') : LiesK k v len z w' := by
  intro j hj
  obtain ⟨b, o, e, hb, hc⟩ := h j hj
  exact ⟨b, o, e, by have := hg.size; omega, (hg.cell hb).trans hc⟩
def CopyI (n : Nat) (z : Nat → Int) (w1 : World) (lf : Nat) (t u : Value) (wr : World) : Prop :=
  ∃ k : Nat, k ≤ n ∧ lf = n - k ∧ u = .int .i64 k ∧ wr.ownsRow w1.heap.size 2 1 t k (us z k) ∧ Below w1.heap.size w1 wr
def SlcI (n : Nat) (z : Nat → Int) (p s : Int) (w1 : World) (lf : Nat) (r t : Value) (wr : World) : Prop :=
  ∃ k m : Nat, k ≤ n ∧ lf = n - k ∧ t = .int .i64 k ∧ r = .int .i64 (left z p s k) ∧ wr = w1.drewN m
set_option maxHeartbeats 4000000 in
theorem slicesLaw (v : Option Addr) (n cap : Nat) (z : Nat → Int) (p s : Int) (w : World) (hn : n ≤ 9223372036854775807) (hz : ∀ j, j < n → 0 ≤ z j ∧ z j ≤ 4294967295) (hc : LiesK .u32 v n z w) (hp : 0 ≤ p ∧ p ≤ 4294967295) (hs : 0 ≤ s ∧ s ≤ 65535) :
    Calls Try.prog 7 #[.slice v n cap, .int .u32 p, .int .u16 s] w (Yes w) := by
  have S := Lib.hid (fun w => shown w)
  have hg := Below.refl w.heap.size w
  by_cases h2 : (300 : Int) < n
  · go_enter Try.func7, Try.ntmps7
    go_wp2_with (go_at_call 9; refine (S.out _).mono ?_; rintro e w' ⟨rfl, hg1⟩; replace hg := fresh_trans hg hg1; clear hg1)
    go_ret
    exact yes_of rfl hg
  by_cases h1 : s = 0
  · subst h1
    go_enter Try.func7, Try.ntmps7
    go_wp2_with (go_at_call 9; refine (S.out _).mono ?_; rintro e w' ⟨rfl, hg1⟩; replace hg := fresh_trans hg hg1; clear hg1)
    go_ret
    exact yes_of rfl hg
  have h1' : (s == 0) = false := by simpa using h1
  have hn' : (n : Int) ≤ 300 := by omega
  obtain ⟨i0, hi, hz0, hz1, hz2⟩ := info_parts infoL
  have CA := Lib.hid (fun w1 (h : Below w.heap.size w w1) => hc.fresh h)
  have Z := Lib.hid hz
  clear hz hc
  go_enter Try.func7, Try.ntmps7
  go_wp2_with (go_at_call 9; refine (S.out _).mono ?_; rintro e w' ⟨rfl, hg1⟩; replace hg := fresh_trans hg hg1; clear hg1)
  have CZ := Lib.hid (CA.out _ hg)
  clear CA S
  go_loopg [8, 9] n (fun lf t u wr => CopyI n z w' lf t u wr)
  case atStart => exact ⟨0, by omega, rfl, rfl, World.ownsRow_nil _ _ _ _, Below.refl _ _⟩
  case round =>
    obtain ⟨k, hk, rfl, rfl, hown, hb⟩ := hrel
    by_cases hlt : k < n
    · have h3 : (k : Int) < n := by omega
      obtain ⟨b, o, rfl, hbl, hc⟩ := CZ.out k hlt
      replace hc := (hb.cell hbl).trans hc
      obtain ⟨z0, z1⟩ := Z.out k hlt
      have HF := Lib.hid (fun (v' : Value) (w2 : World) (hh : w2.ownsRow w'.heap.size 2 1 v' (k + 1) (us z k ++ [.int .i64 (z k)])) (g : Below w'.heap.size w' w2) => (show CopyI n z w' (n - (k + 1)) v' (.int .i64 ((k : Int) + 1)) w2 from ⟨k + 1, by omega, rfl, by go_num, by rw [us_succ]; exact hh, g⟩))
      have hl := us_length z k
      generalize us z k = U at *
      generalize z k = x at *
      have hzr := hb.size
      clear hbl CZ Z
      go_wp2_with (at_builtin; refine wpList_append_own _ rfl (.tmp 30) (.tmp 36) 38 rfl w'.heap.size 2 i0 _ 1 8 Try.underlying38 hi hz0 hz1 hz2 rfl (by decide) _ _ _ rfl (hown.alloc _) ⟨wr.heap.size, 0, none⟩ 1 1 [.int .i64 x] rfl rfl (World.news_of_block (heap_alloc_new wr _)) (by simp [Value.oneCell']) (by simp only [maxLen]; omega) (by omega) (by simp; omega) ?_; intro v' w4 hown4 hgrow4 _; have hb4 := (hb.alloc hzr _).grown hgrow4 (by simp; omega) (fun j hj => (hown.lt j hj).1))
      go_roundg (n - (k + 1))
      case measure => omega
      case rel => exact HF.out _ _ hown4 hb4
    · have h3 : ¬ (k : Int) < n := by omega
      obtain rfl : k = n := by omega
      obtain ⟨ao, cp, rfl, hl⟩ := lies_own hown
      replace hg := fresh_trans hg hb
      have HL := Lib.hid hl
      have m1 := Lib.hid (gives ao k cp z p s wr (by unfold I64; omega) (by unfold I64; omega) (by omega) (Lib.hid (fun j hj => by have := Z.out j hj; unfold I64; omega)) HL)
      unfold Given at m1
      clear hown hl CZ hb
      have w1 : IntKind.i64.wrap p = p := by rw [IntKind.wrap_i64]; omega
      have w2 : IntKind.i64.wrap s = s := by rw [IntKind.wrap_i64]; omega
      go_wp2_with (go_at_call 19; refine m1.out.mono ?_; rintro e w2 ⟨ao2, cp2, rfl, hl2, hg2⟩; replace hl2 := Lib.hid hl2; replace HL := Lib.hid (HL.out.fresh hg2); replace hg := fresh_trans hg hg2; clear hg2)
      clear m1
      generalize left z p s k = qn
      go_loopg [13, 14] k (fun lf r t wr => SlcI k z p s w2 lf r t wr)
      case atStart => exact ⟨0, 0, by omega, rfl, rfl, rfl, rfl⟩
      case round =>
        obtain ⟨j, m, hj, rfl, rfl, rfl, rfl⟩ := hrel
        by_cases hlt : j < k
        · have h3' : (j : Int) < k := by omega
          have hp64 : I64 p := by unfold I64; omega
          have Z' : ∀ i, i < k → I64 (z i) := fun i hi => by have := Z.out i hi; unfold I64; omega
          obtain ⟨b1, o1, rfl, hb1, c1⟩ := HL.out j hlt
          obtain ⟨b2, o2, rfl, hb2, c2⟩ := hl2.out j hlt
          have d1 : (w2.drewN m).cell? ⟨b1, o1 + j, none⟩ = _ := c1
          have d2 : (w2.drewN m).cell? ⟨b2, o2 + j, none⟩ = _ := c2
          have hl0 := left_i64 (s := s) hp64 j (fun i hi => Z' i (by omega))
          have NX := Lib.hid (fun i => (⟨j + 1, m + i, by omega, rfl, by go_num, rfl, by rw [World.drewN_drewN]⟩ : SlcI k z p s w2 (k - (j + 1)) (.int .i64 (left z p s j - got z p s j)) (.int .i64 ((j : Int) + 1)) ((w2.drewN m).drewN i)))
          obtain ⟨pa, pb⟩ := part_i64 (s := s) (Z' j hlt) hl0
          obtain ⟨pc, _⟩ := part_bd (n := z j) (p := left z p s j) (s := s) (Z' j hlt).2
          have pd := part_whole (n := z j) (p := left z p s j) (s := s) (Z.out j hlt).1 (Z.out j hlt).2 (by omega) hs.2
          have zb := Z.out j hlt
          rw [show part (z j) (left z p s j) s = got z p s j from rfl] at pa pb pc pd
          clear c1 c2 HL hl2 Z Z'
          generalize got z p s j = x at *
          generalize left z p s j = q at *
          generalize z j = y at *
          unfold I64 at pa pb hl0
          generalize w2.drewN m = W at *
          by_cases hr : 0 < q - x
          · obtain ⟨p1, p2, p3⟩ := pd hr
            have f0 : (x % s == 0) = true := by simpa using p1
            have f1 : decide (x < y) = false := by simp; omega
            have f2 : decide (s ≤ x - y) = false := by simp; omega
            have s0 : (0 : Int) ≤ s := by omega
            have hr' : decide (x < q) = true := by simp; omega
            have hr2 : decide (0 < q - x) = true := by simpa using hr
            clear pd
            go_wp2_with fail
            go_quiet (fail)
            go_wp2_with fail
            go_roundg (k - (j + 1))
            case measure => omega
            case rel => exact NX.out _
          · have f0 : decide (0 < q - x) = false := by simpa using hr
            have f1 : decide (x < q) = false := by simp; omega
            clear pd
            go_wp2_with fail
            go_quiet (fail)
            go_wp2_with fail
            go_roundg (k - (j + 1))
            case measure => omega
            case rel => exact NX.out _
        · have h3' : ¬ (j : Int) < k := by omega
          have hgF := Lib.hid (hg.trans ((drawn w2 m).mono hg.size))
          clear HL hl2
          go_wp2_with fail
          go_ret
          exact yes_of rfl hgF.out
end Go.Proofs.Ythphileaaoeamaa.Fifo
