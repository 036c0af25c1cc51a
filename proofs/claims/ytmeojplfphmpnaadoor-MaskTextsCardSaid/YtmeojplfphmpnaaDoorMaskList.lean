/- What mask.List tells of any set: all that are in it, rising, in memory of its own. Conditions: the set is a word; the listed table holds what it is listed with. -/
import Derived.Test.YtmeojplfphmpnaaDoorMaskText
import Derived.Test.YtmeojplfphmpnaaDoorMaskOnesP
namespace Go.Proofs.YtmeojplfphmpnaaDoor.Mask
open Go.ChangeShapes Go.WideShapes Go.ChangeAt Go.RowKit
set_option linter.unusedVariables false
set_option linter.unusedSimpArgs false
set_option maxRecDepth 100000

theorem clear_low {x : Nat} (hx : x < 18446744073709551616) (h0 : x ≠ 0) (i : Nat) : (x &&& (x - 1)).testBit i = (x.testBit i && decide (i ≠ tz x)) := by
  obtain ⟨j, hj, hk⟩ := Lib.ctzFrom_spec 64 x (by omega) hx
  have e : tz x = Lib.ctzFrom 64 x := by unfold tz Lib.ctz; rw [if_neg h0]
  rw [e]
  generalize Lib.ctzFrom 64 x = k at *
  have hp : 0 < 2 ^ k := Nat.pow_pos (by decide)
  have e1 : x - 1 = 2 ^ (k + 1) * j + (2 ^ k - 1) := by
    have : x = 2 ^ (k + 1) * j + 2 ^ k := by rw [hj, Nat.mul_add, Nat.mul_one, ← Nat.mul_assoc, Nat.pow_succ]
    omega
  have e2 : x = 2 ^ (k + 1) * j + 2 ^ k := by rw [hj, Nat.mul_add, Nat.mul_one, ← Nat.mul_assoc, Nat.pow_succ]
  have l1 : 2 ^ k < 2 ^ (k + 1) := by rw [Nat.pow_succ]; omega
  rw [Nat.testBit_and, e1]
  conv => lhs; rw [e2]
  conv => rhs; rw [e2]
  rw [Nat.testBit_two_pow_mul_add j (show 2 ^ k - 1 < 2 ^ (k + 1) by omega), Nat.testBit_two_pow_mul_add j l1]
  by_cases hi : i < k + 1
  · rw [if_pos hi, if_pos hi, Nat.testBit_two_pow_sub_one, Nat.testBit_two_pow]
    by_cases h1 : i = k
    · subst h1; simp
    · have : ¬ k = i := fun h => h1 h.symm
      simp [this]
  · rw [if_neg hi, if_neg hi]
    have : i ≠ k := by omega
    simp [this]

theorem filt_skip (p : Nat → Bool) : ∀ (d a : Nat), (∀ i, a ≤ i → i < a + d → p i = false) → (List.range (a + d)).filter p = (List.range a).filter p
  | 0, a, h => rfl
  | d + 1, a, h => by
    rw [← Nat.add_assoc, List.range_succ, List.filter_append, filt_skip p d a (fun i h1 h2 => h i h1 (by omega))]
    simp [h (a + d) (by omega) (by omega)]

def ic (l : List Nat) : List Value := l.map fun n : Nat => Value.int .i64 (n : Int)
/-- A row of numbers of the call's own. -/
def OutI (B : Nat) (v : Value) (l : List Nat) (w : World) : Prop := w.ownsRow B 3 1 v l.length (ic l)
/-- A row of numbers, to be read. -/
def Lies (g : Nat) (l : List Nat) (w : World) : Prop := g < w.heap.size ∧ ∀ (j x : Nat), l[j]? = some x → w.cell? ⟨g, j, none⟩ = some (.int .i64 (x : Int))
theorem Lies.fresh {g : Nat} {l : List Nat} {w w' : World} (h : Lies g l w) (hb : Below w.heap.size w w') : Lies g l w' :=
  ⟨Nat.lt_of_lt_of_le h.1 hb.size, fun j x hx => (hb.cell (p := ⟨g, j, none⟩) h.1).trans (h.2 j x hx)⟩
theorem OutI.shape {B : Nat} {v : Value} {l : List Nat} {w : World} (h : OutI B v l w) (hl : l ≠ []) : ∃ g cap, v = .slice (some ⟨g, 0, none⟩) l.length cap := by
  obtain ⟨h1, ⟨h2, h3⟩ | ⟨g, cap, cur, h2, _⟩⟩ := h
  · exact absurd (List.eq_nil_of_length_eq_zero h3) hl
  · exact ⟨g, cap, h2⟩
theorem OutI.lies {B g n cap : Nat} {l : List Nat} {w : World} (h : OutI B (.slice (some ⟨g, 0, none⟩) n cap) l w) : Lies g l w := by
  have hn : n = l.length := by
    obtain ⟨h1, ⟨h2, h3⟩ | ⟨g', cap', cur, h2, _⟩⟩ := h
    · cases h2
    · cases h2; rfl
  subst hn
  refine ⟨?_, fun j x hx => ?_⟩
  · obtain ⟨h1, ⟨h2, h3⟩ | ⟨g', cap', cur, h2, _, hh, _⟩⟩ := h
    · cases h2
    · cases h2; exact (Array.getElem?_eq_some_iff.1 hh).1
  · have hj : j < l.length := (List.getElem?_eq_some_iff.1 hx).1
    rw [World.ownsRow.cellAt h j (by simpa using hj)]
    simp [ic, hx]

def IsList (l : List Nat) (w : World) (e : Ending) (w' : World) : Prop := ∃ g cap, e = .returned (.slice (some ⟨g, 0, none⟩) l.length cap) ∧ Lies g l w' ∧ Below w.heap.size w w'
theorem infoI64 : (Tryd.prog.info? 3).map (fun i => (i.zero, i.size, i.bytes)) = some (some (.int .i64 0), 1, 8) := by kernel_rfl

theorem appNum {B : Nat} {l : List Nat} {w w' : World} {v v' : Value} {n : Nat} (h : OutI B v l w) (hB : B ≤ w.heap.size) (hown : w'.ownsRow B 3 1 v' (l.length + 1) ((ic l) ++ [.int .i64 (n : Int)])) (o : Obj) (hgrow : (w.alloc o).grownBy w' v.ownBlock) : OutI B v' (l ++ [n]) w' ∧ Below B w w' := by
  refine ⟨?_, ?_⟩
  · unfold OutI
    rw [show ic (l ++ [n]) = ic l ++ [.int .i64 (n : Int)] by simp [ic], List.length_append]
    exact hown
  · exact ((Below.refl B w).alloc hB o).trans ((Below.refl B _).grown hgrow (by show B ≤ (w.heap.push o).size; rw [Array.size_push]; omega) (fun k hk => (h.lt k hk).1))

def ListI (m : Nat) (w : World) (x v : Value) (wr : World) : Prop :=
  ∃ (mc c : Nat) (out : List Nat), x = .int .u64 mc ∧ c ≤ 64 ∧ (∀ i, mc.testBit i = (decide (c ≤ i) && m.testBit i)) ∧ mc < 18446744073709551616 ∧ (∃ g cap, v = .slice (some ⟨g, 0, none⟩) out.length cap) ∧ OutI w.heap.size v out wr ∧ out = (List.range c).filter m.testBit ∧ Below w.heap.size w wr

theorem List_ (m : Nat) (hm : m < 18446744073709551616) (w : World) (hT : Tab w) : Calls Tryd.prog 17 #[.int .u64 m] w (IsList (lst m) w) := by
  obtain ⟨i0, hi, hz0, hz1, hz2⟩ := info_parts infoI64
  have CT := Lib.hid (count m hm w)
  have hon : ones m ≤ 127 := by unfold ones; omega
  have hon8 : i0.bytes * ones m ≤ 281474976710656 := by rw [hz2]; omega
  go_enter Tryd.func17, Tryd.ntmps17
  go_wp2_with (first
    | (go_at_call 22; refine CT.out.mono ?_; rintro e w1 ⟨rfl, hw⟩; replace hw := hw.symm; subst hw)
    | (at_make; refine wpList_make_own _ rfl _ _ 30 rfl w.heap.size 3 i0 (.int .i64 0) 1 Tryd.underlying30 hi hz0 hz1 .i64 .i64 _ (ones m) rfl rfl rfl hon8 (by unfold maxLen; omega) (Nat.le_refl _) ?_; intro w1 hrow hgrow))
  have hB1 : Below w.heap.size w w1 := (Below.refl _ w).grown hgrow (Nat.le_refl _) (fun k e => by cases e)
  have start : ListI m w (.int .u64 m) (.slice (some ⟨w.heap.size, 0, none⟩) 0 (ones m)) w1 := ⟨m, 0, [], rfl, by omega, fun i => by simp, hm, ⟨_, _, rfl⟩, hrow, rfl, hB1⟩
  have st := Lib.hid start
  clear start hrow hgrow hB1 CT hon hon8
  go_loopw [0, 3] (fun x v wr => ListI m w x v wr) (fun x _ _ => match x with | .int _ z => z.toNat | _ => 0)
  case atStart => exact st.out
  case round =>
    obtain ⟨mc, c, out, rfl, hc, hbit, hmc, ⟨g, cap, rfl⟩, hout, hol, hb⟩ := hrel
    have hT1 := hT.fresh hb
    by_cases h0 : mc = 0
    · subst h0
      have e : out = lst m := by
        rw [hol]
        unfold lst
        have := filt_skip m.testBit (64 - c) c (fun i h1 h2 => by
          have h3 := hbit i
          rw [Nat.zero_testBit] at h3
          simpa [h1] using h3.symm)
        rw [show c + (64 - c) = 64 by omega] at this
        exact this.symm
      subst e
      clear hol hbit
      go_wp2_with fail
      go_ret
      exact ⟨_, _, rfl, hout.lies, hb⟩
    · obtain ⟨f1, f2, f3⟩ := tz_spec hmc h0
      have hF := first mc hmc wr hT1
      rw [show fst mc = (tz mc : Int) by unfold fst; rw [if_neg h0]] at hF
      have hcl := fun i => clear_low hmc h0 i
      have hand : bits .and .u64 (mc : Int) ((mc : Int) - 1) = ((mc &&& (mc - 1) : Nat) : Int) := by
        rw [show (mc : Int) - 1 = ((mc - 1 : Nat) : Int) by omega]
        exact bits_and_u64_nat mc (mc - 1) hmc (by omega)
      generalize tz mc = f at *
      have hcf : c ≤ f := by
        have := hbit f
        rw [f2] at this
        simp at this
        exact this.1
      have hless : mc &&& (mc - 1) < mc := by
        refine Nat.lt_of_le_of_ne Nat.and_le_left (fun h => ?_)
        have := hcl f
        rw [h, f2] at this
        simp at this
      have fin : ∀ (v' : Value) (W : World), OutI w.heap.size v' (out ++ [f]) W → Below w.heap.size wr W → ListI m w (.int .u64 ((mc &&& (mc - 1) : Nat) : Int)) v' W := by
        intro v' W g1 g2
        refine ⟨_, f + 1, _, rfl, by omega, fun i => ?_, by omega, g1.shape (by simp), g1, ?_, hb.trans g2⟩
        · rw [hcl, hbit]
          by_cases k1 : i = f
          · subst k1
            simp
            intro h
            omega
          · by_cases k2 : i < f
            · have k3 := f3 i k2
              rw [hbit] at k3
              rw [k3]
              simp
              omega
            · simp [k1, show c ≤ i by omega, show f + 1 ≤ i by omega]
        · rw [List.range_succ, List.filter_append, hol]
          have h5 := filt_skip m.testBit (f - c) c (fun i h1 h2 => by
            have h3 := f3 i (by omega)
            rw [hbit] at h3
            simpa [h1] using h3)
          rw [show c + (f - c) = f by omega] at h5
          have h6 : m.testBit f = true := by
            have := hbit f
            rw [f2] at this
            simp at this
            exact this.2
          rw [h5]
          simp [h6]
      have hlen : out.length ≤ 64 := by
        rw [hol]
        have := List.length_filter_le m.testBit (List.range c)
        simp at this
        omega
      have hB : w.heap.size ≤ wr.heap.size := hb.size
      have h1' : 1 ≤ mc := by omega
      have h0' : ((mc : Int) == 0) = false := by simpa using h0
      generalize mc &&& (mc - 1) = md at *
      have fin' := Lib.hid fin
      have hF' := Lib.hid hF
      clear fin hF hcl hbit hol hb f2 f3 hT1 h0
      go_wp2_with (first
        | (go_at_call 23; refine hF'.out.mono ?_; rintro e w1 ⟨rfl, hw⟩; replace hw := hw.symm; subst hw)
        | (at_builtin; refine wpList_append_own _ rfl _ _ 30 rfl w.heap.size 3 i0 (.int .i64 0) 1 8 Tryd.underlying30 hi hz0 hz1 hz2 rfl (by decide) _ _ _ rfl (hout.alloc _) ⟨wr.heap.size, 0, none⟩ 1 1 [.int .i64 (f : Int)] rfl rfl (cell_one_new _ _ _) (by simp [Value.oneCell']) (by unfold maxLen; omega) (by omega) (by show w.heap.size ≤ (wr.heap.push _).size; rw [Array.size_push]; omega) ?_; intro v2 w2 hown' hgrow _; obtain ⟨ho2, qw2⟩ := appNum (n := f) hout hB hown' _ hgrow; clear hown' hgrow))
      exact ⟨fin'.out v2 w2 ho2 qw2, by simp; omega⟩
end Go.Proofs.YtmeojplfphmpnaaDoor.Mask
