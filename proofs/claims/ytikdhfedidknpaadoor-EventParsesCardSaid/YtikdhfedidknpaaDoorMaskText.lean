/- What mask.Text tells of any set: its text. Conditions: the set is a word; the listed table holds what it is listed with. -/
import Derived.Test.YtikdhfedidknpaaDoorMaskApp
import Derived.Laws.BytesString
import Derived.LoopTactic
import Derived.Maps.AppendAt
namespace Go.Proofs.YtikdhfedidknpaaDoor.Mask
open Go.ChangeShapes Go.WideShapes Go.ChangeAt Go.RowKit
set_option linter.unusedVariables false
set_option linter.unusedSimpArgs false
set_option maxRecDepth 100000

theorem Out.shape {B : Nat} {v : Value} {l : List UInt8} {w : World} (h : Out B v l w) : (v = .slice none 0 0 ∧ l = []) ∨ ∃ g cap, v = .slice (some ⟨g, 0, none⟩) l.length cap := by
  obtain ⟨h1, ⟨h2, h3⟩ | ⟨g, cap, cur, h2, _⟩⟩ := h
  · exact .inl ⟨h2, List.eq_nil_of_length_eq_zero h3⟩
  · exact .inr ⟨g, cap, h2⟩

/-- A byte more. -/
theorem appByte {B : Nat} {l : List UInt8} {w w' : World} {v v' : Value} {c : UInt8} (h : Out B v l w) (hB : B ≤ w.heap.size) (hown : w'.ownsRow B 5 1 v' (l.length + 1) (Lib.byteCells l ++ [.int .u8 c.toNat])) (o : Obj) (hgrow : (w.alloc o).grownBy w' v.ownBlock) : Out B v' (l ++ [c]) w' ∧ Below B w w' := by
  refine ⟨?_, ?_⟩
  · unfold Out
    rw [byteCells_append, List.length_append]
    exact hown
  · exact ((Below.refl B w).alloc hB o).trans ((Below.refl B _).grown hgrow (by show B ≤ (w.heap.push o).size; rw [Array.size_push]; omega) (fun k hk => (h.lt k hk).1))

/-- What text a row of bytes is. -/
theorem Out.string {B : Nat} {v : Value} {l : List UInt8} {w : World} (h : Out B v l w) : (convert 54 9 v).run Tryd.prog w = .ok (.string ⟨l.toArray⟩) w := by
  have hS : ∀ a n c, (convert 54 9 (.slice a n c)).run Tryd.prog w = (Conv.bytesToString (.slice a n c)).run Tryd.prog w := fun a n c => run_convert_bytes_string w _ _ 5 a n c Tryd.underlying54 Tryd.underlying5 Tryd.underlying9
  rcases h.shape with ⟨rfl, rfl⟩ | ⟨g, cap, rfl⟩
  · rw [hS]
    simp [Conv.bytesToString]
    rfl
  · rw [hS]
    have hc : (loadCells ⟨g, 0, none⟩ l.length).run Tryd.prog w = .ok ((l.map fun b => (b.toNat : Int)).map (Value.int .u8)).toArray w := by
      have e : ((l.map fun b => (b.toNat : Int)).map (Value.int .u8)) = Lib.byteCells l := by simp [Lib.byteCells]
      rw [e]
      have := run_loadCells_list (P := Tryd.prog) (w := w) ⟨g, 0, none⟩ (Lib.byteCells l) (fun j v hv => by
        have hj : j < l.length := by
          have := (List.getElem?_eq_some_iff.1 hv).1
          simpa [Lib.byteCells] using this
        have h2 := World.ownsRow.cellAt h j (by simpa using hj)
        rw [hv] at h2
        rw [Addr.add_lit, Nat.zero_add]
        exact h2)
      simpa [Lib.byteCells] using this
    rw [run_bytesToString w ⟨g, 0, none⟩ l.length cap _ hc]
    congr 2
    have key : ∀ (l : List UInt8) (a : ByteArray), (l.map fun b => (b.toNat : Int)).foldl (fun r n => r.push (UInt8.ofNat n.toNat)) a = ⟨a.data ++ l.toArray⟩ := by
      intro l
      induction l with
      | nil => intro a; simp
      | cons b l ih =>
        intro a
        rw [List.map_cons, List.foldl_cons, ih]
        simp [ByteArray.push]
    rw [key]
    simp [ByteArray.empty, ByteArray.emptyWithCapacity]
    rfl

def IsStr (l : List UInt8) (w : World) (e : Ending) (w' : World) : Prop := e = .returned (.string ⟨l.toArray⟩) ∧ Below w.heap.size w w'

theorem not_bits (a : Nat) (ha : a < 18446744073709551616) : bits .xor .u64 IntKind.u64.max (a : Int) = ((18446744073709551615 - a : Nat) : Int) := by
  rw [show IntKind.u64.max = ((18446744073709551615 : Nat) : Int) from rfl, bits_xor_u64_nat _ _ (by decide) ha]
  congr 1
  apply Nat.eq_of_testBit_eq
  intro i
  rw [Nat.testBit_xor, not_bit _ _ ha, show (18446744073709551615 : Nat) = 2 ^ 64 - 1 from rfl, Nat.testBit_two_pow_sub_one]
  by_cases h : i < 64
  · simp [h]
  · simp [h]
    exact Nat.testBit_lt_two_pow (Nat.lt_of_lt_of_le (show a < 2 ^ 64 from ha) (Nat.pow_le_pow_right (by decide) (by omega)))

theorem tstep_nil (f l : Nat) : tstep [] (f, l) = seg f l := rfl
theorem tstep_ne (out : List UInt8) (f l : Nat) (h : out ≠ []) : tstep out (f, l) = out ++ [44] ++ seg f l := by simp [tstep, h]
theorem clr_lt {mc f l : Nat} (h1 : f ≤ l) (h2 : mc.testBit f = true) (hl : l < 64) : mc &&& (18446744073709551615 - rw' f l) < mc := by
  refine Nat.lt_of_le_of_ne Nat.and_le_left (fun h => ?_)
  have := congrArg (fun x => x.testBit f) h
  simp only [Nat.testBit_and, not_bit _ _ (rw_lt f l hl), rw_bit f l f h1, h2] at this
  simp [h1] at this

def TextI (m : Nat) (w : World) (x v : Value) (wr : World) : Prop :=
  ∃ (mc c : Nat) (out : List UInt8), x = .int .u64 mc ∧ At m mc c ∧ ((out = [] ∧ v = .slice none 0 0) ∨ (out ≠ [] ∧ ∃ g cap, v = .slice (some ⟨g, 0, none⟩) out.length cap)) ∧ Out w.heap.size v out wr ∧ out.length ≤ 6 * c ∧ (runs m c (64 - c)).foldl tstep out = text m ∧ Below w.heap.size w wr

set_option maxHeartbeats 4000000 in
theorem Text (m : Nat) (hm : m < 18446744073709551616) (w : World) (hT : Tab w) : Calls Tryd.prog 52 #[.int .u64 m] w (IsStr (text m) w) := by
  obtain ⟨i0, hi, hz0, hz1, hz2⟩ := info_parts infoU8
  go_enter Tryd.func52, Tryd.ntmps52
  go_wp2
  go_loopw [0, 3] (fun x v wr => TextI m w x v wr) (fun x _ _ => match x with | .int _ z => z.toNat | _ => 0)
  case atStart => exact ⟨m, 0, [], rfl, At.start m, .inl ⟨rfl, rfl⟩, ⟨rfl, .inl ⟨rfl, rfl⟩⟩, by simp, rfl, Below.refl _ _⟩
  case round =>
    obtain ⟨mc, c, out, rfl, hat, hsh, hout, hlen, htx, hb⟩ := hrel
    have hT1 := hT.fresh hb
    have hmc := hat.lt hm
    by_cases h0 : mc = 0
    · subst h0
      rw [hat.done hm] at htx
      have hs := hout.string
      go_wp2
      go_ret
      exact ⟨by rw [← htx]; rfl, hb⟩
    · obtain ⟨n1, n2, n3, n4, n5, n6, n7, n8⟩ := hat.next hm h0
      have hF := first mc hmc wr hT1
      have hf : tz mc < 64 := by omega
      rw [show fst mc = (tz mc : Int) by unfold fst; rw [if_neg h0]] at hF
      have h0' : ((mc : Int) == 0) = false := by simpa using h0
      generalize hl : lastOf mc (tz mc) = l at *
      unfold lastOf at hl
      generalize tz mc = f at *
      have hdl : mc / 2 ^ f < 18446744073709551616 := Nat.lt_of_le_of_lt (Nat.div_le_self _ _) hmc
      have hZ := tz64 (18446744073709551615 - mc / 2 ^ f) (Nat.lt_of_le_of_lt (Nat.sub_le _ _) (by decide)) wr hT1
      rw [← not_bits _ hdl] at hZ
      have hZ1 : tz (18446744073709551615 - mc / 2 ^ f) = l + 1 - f := by omega
      obtain ⟨r, hr⟩ : ∃ r : Nat, l + 1 - f = r := ⟨_, rfl⟩
      have hadd : (f : Int) + (r : Int) - 1 = (l : Int) := by omega
      rw [hZ1, hr, show ((mc / 2 ^ f : Nat) : Int) = (mc : Int) / 2 ^ f by simp] at hZ
      have hR := fun W : World => row f l W n1 n2
      have hclr : bits .andNot .u64 (mc : Int) (rw' f l : Int) = ((mc &&& (18446744073709551615 - rw' f l) : Nat) : Int) := u64_andNot_nat _ _ hmc (rw_lt _ _ n2)
      have hmf : mc.testBit f = true := by
        have := n4 f (Nat.le_refl _) n1
        rw [hat.bit, this]
        simp [n7]
      have hless := clr_lt n1 hmf n2
      have fin : ∀ (v' : Value) (W : World), Out w.heap.size v' (tstep out (f, l)) W → Below w.heap.size wr W → TextI m w (.int .u64 ((mc &&& (18446744073709551615 - rw' f l) : Nat) : Int)) v' W := by
        intro v' W h1 h2
        have hne : tstep out (f, l) ≠ [] := by unfold tstep; simp [seg_ne]
        have hsl : (tstep out (f, l)).length ≤ out.length + 6 := by
          have := seg_len f l
          unfold tstep
          split <;> simp <;> omega
        refine ⟨_, l + 1, tstep out (f, l), rfl, n6, .inr ⟨hne, ?_⟩, h1, by omega, ?_, hb.trans h2⟩
        · rcases h1.shape with ⟨_, h3⟩ | h3
          · exact absurd h3 hne
          · exact h3
        · rw [← htx, n5]
          rfl
      have hB : w.heap.size ≤ wr.heap.size := hb.size
      have hlen2 : out.length ≤ 384 := by have := hat.le; omega
      generalize hmd : mc &&& (18446744073709551615 - rw' f l) = md at *
      have fin' := Lib.hid fin
      have hF' := Lib.hid hF
      have hZ' := Lib.hid hZ
      have hR' := Lib.hid hR
      have hT' := Lib.hid hT
      clear hF hat n3 n4 n5 n6 n7 n8 hlen htx hb h0 hT1 hT hZ hZ1 hl hdl hmd hmf fin hR hr
      rcases hsh with ⟨rfl, rfl⟩ | ⟨hne, g, cap, rfl⟩
      · by_cases hfl : f < l
        · have hfl' : (f : Int) < (l : Int) := by omega
          go_wp2_with (first
            | (go_at_call 68; refine hF'.out.mono ?_; rintro e w1 ⟨rfl, hw⟩; replace hw := hw.symm; subst hw)
            | (go_at_call 69; refine hZ'.out.mono ?_; rintro e w1 ⟨rfl, hw⟩; replace hw := hw.symm; subst hw))
          refine (appInt w.heap.size f (by omega) _ [] _ hout hB (by simp; try omega)).mono ?_
          rintro e w3 ⟨v3, rfl, ho3, qw3⟩
          have hB3 : w.heap.size ≤ w3.heap.size := by have := qw3.size; omega
          have hdf := dig_len f
          have hsz3 : ([] ++ dig f).length ≤ 387 := by simp; omega
          go_wp2_with (at_builtin; refine wpList_append_own _ rfl _ _ 54 rfl w.heap.size 5 i0 (.int .u8 0) 1 1 Tryd.underlying54 hi hz0 hz1 hz2 rfl (by decide) _ _ _ rfl (ho3.alloc _) ⟨w3.heap.size, 0, none⟩ 1 1 [.int .u8 45] rfl rfl (cell_one_new _ _ _) (by simp [Value.oneCell']) (by unfold maxLen; simp; omega) (by simp; omega) (by show w.heap.size ≤ (w3.heap.push _).size; rw [Array.size_push]; omega) ?_; intro v4 w4 hown' hgrow _; obtain ⟨ho4, qw4⟩ := appByte (c := 45) ho3 hB3 hown' _ hgrow; have hB4 := Below.size qw4; clear hown' hgrow)
          have hB4' : w.heap.size ≤ w4.heap.size := by omega
          refine (appInt w.heap.size l (by omega) _ (([] ++ dig f) ++ [45]) w4 ho4 hB4' (by simp; omega)).mono ?_
          rintro e w5 ⟨v5, rfl, ho5, qw5⟩
          go_wp2_with (go_at_call 71; refine (hR'.out _).mono ?_; rintro e w6 ⟨rfl, rfl⟩)
          go_roundw
          case rel =>
            refine fin'.out v5 w6 ?_ (((qw3).trans qw4).trans qw5)
            have e : tstep [] (f, l) = ([] ++ dig f) ++ [45] ++ dig l := by
              rw [tstep_nil]
              simp [seg, hfl]
            rw [e]
            exact ho5
          case measure =>
            simp
            omega
        · have hfl' : ¬ (f : Int) < (l : Int) := by omega
          go_wp2_with (first
            | (go_at_call 68; refine hF'.out.mono ?_; rintro e w1 ⟨rfl, hw⟩; replace hw := hw.symm; subst hw)
            | (go_at_call 69; refine hZ'.out.mono ?_; rintro e w1 ⟨rfl, hw⟩; replace hw := hw.symm; subst hw))
          refine (appInt w.heap.size f (by omega) _ [] _ hout hB (by simp; try omega)).mono ?_
          rintro e w3 ⟨v3, rfl, ho3, qw3⟩
          have hB3 : w.heap.size ≤ w3.heap.size := by have := qw3.size; omega
          go_wp2_with (go_at_call 71; refine (hR'.out _).mono ?_; rintro e w6 ⟨rfl, rfl⟩)
          go_roundw
          case rel =>
            refine fin'.out v3 w6 ?_ (qw3)
            have e : tstep [] (f, l) = ([] ++ dig f) := by
              rw [tstep_nil]
              simp [seg, hfl]
            rw [e]
            exact ho3
          case measure =>
            simp
            omega
      · have hne0 : 0 < out.length := List.length_pos_iff.2 hne
        have hne1 : (0 : Int) < (out.length : Int) := by omega
        by_cases hfl : f < l
        · have hfl' : (f : Int) < (l : Int) := by omega
          go_wp2_with (first
            | (go_at_call 68; refine hF'.out.mono ?_; rintro e w1 ⟨rfl, hw⟩; replace hw := hw.symm; subst hw)
            | (go_at_call 69; refine hZ'.out.mono ?_; rintro e w1 ⟨rfl, hw⟩; replace hw := hw.symm; subst hw)
            | (at_builtin; refine wpList_append_own _ rfl _ _ 54 rfl w.heap.size 5 i0 (.int .u8 0) 1 1 Tryd.underlying54 hi hz0 hz1 hz2 rfl (by decide) _ _ _ rfl (hout.alloc _) ⟨wr.heap.size, 0, none⟩ 1 1 [.int .u8 44] rfl rfl (cell_one_new _ _ _) (by simp [Value.oneCell']) (by unfold maxLen; simp; omega) (by simp; omega) (by show w.heap.size ≤ (wr.heap.push _).size; rw [Array.size_push]; omega) ?_; intro v2 w2 hown' hgrow _; obtain ⟨ho2, qw2⟩ := appByte (c := 44) hout hB hown' _ hgrow; have hB2 := Below.size qw2; clear hown' hgrow))
          have hB2' : w.heap.size ≤ w2.heap.size := by omega
          refine (appInt w.heap.size f (by omega) _ (out ++ [44]) w2 ho2 hB2' (by simp; try omega)).mono ?_
          rintro e w3 ⟨v3, rfl, ho3, qw3⟩
          have hB3 : w.heap.size ≤ w3.heap.size := by have := qw3.size; omega
          have hdf := dig_len f
          have hsz3 : ((out ++ [44]) ++ dig f).length ≤ 387 := by simp; omega
          go_wp2_with (at_builtin; refine wpList_append_own _ rfl _ _ 54 rfl w.heap.size 5 i0 (.int .u8 0) 1 1 Tryd.underlying54 hi hz0 hz1 hz2 rfl (by decide) _ _ _ rfl (ho3.alloc _) ⟨w3.heap.size, 0, none⟩ 1 1 [.int .u8 45] rfl rfl (cell_one_new _ _ _) (by simp [Value.oneCell']) (by unfold maxLen; simp; omega) (by simp; omega) (by show w.heap.size ≤ (w3.heap.push _).size; rw [Array.size_push]; omega) ?_; intro v4 w4 hown' hgrow _; obtain ⟨ho4, qw4⟩ := appByte (c := 45) ho3 hB3 hown' _ hgrow; have hB4 := Below.size qw4; clear hown' hgrow)
          have hB4' : w.heap.size ≤ w4.heap.size := by omega
          refine (appInt w.heap.size l (by omega) _ (((out ++ [44]) ++ dig f) ++ [45]) w4 ho4 hB4' (by simp; omega)).mono ?_
          rintro e w5 ⟨v5, rfl, ho5, qw5⟩
          go_wp2_with (go_at_call 71; refine (hR'.out _).mono ?_; rintro e w6 ⟨rfl, rfl⟩)
          go_roundw
          case rel =>
            refine fin'.out v5 w6 ?_ ((((qw2).trans qw3).trans qw4).trans qw5)
            have e : tstep out (f, l) = ((out ++ [44]) ++ dig f) ++ [45] ++ dig l := by
              rw [tstep_ne _ _ _ hne]
              simp [seg, hfl]
            rw [e]
            exact ho5
          case measure =>
            simp
            omega
        · have hfl' : ¬ (f : Int) < (l : Int) := by omega
          go_wp2_with (first
            | (go_at_call 68; refine hF'.out.mono ?_; rintro e w1 ⟨rfl, hw⟩; replace hw := hw.symm; subst hw)
            | (go_at_call 69; refine hZ'.out.mono ?_; rintro e w1 ⟨rfl, hw⟩; replace hw := hw.symm; subst hw)
            | (at_builtin; refine wpList_append_own _ rfl _ _ 54 rfl w.heap.size 5 i0 (.int .u8 0) 1 1 Tryd.underlying54 hi hz0 hz1 hz2 rfl (by decide) _ _ _ rfl (hout.alloc _) ⟨wr.heap.size, 0, none⟩ 1 1 [.int .u8 44] rfl rfl (cell_one_new _ _ _) (by simp [Value.oneCell']) (by unfold maxLen; simp; omega) (by simp; omega) (by show w.heap.size ≤ (wr.heap.push _).size; rw [Array.size_push]; omega) ?_; intro v2 w2 hown' hgrow _; obtain ⟨ho2, qw2⟩ := appByte (c := 44) hout hB hown' _ hgrow; have hB2 := Below.size qw2; clear hown' hgrow))
          have hB2' : w.heap.size ≤ w2.heap.size := by omega
          refine (appInt w.heap.size f (by omega) _ (out ++ [44]) w2 ho2 hB2' (by simp; try omega)).mono ?_
          rintro e w3 ⟨v3, rfl, ho3, qw3⟩
          have hB3 : w.heap.size ≤ w3.heap.size := by have := qw3.size; omega
          go_wp2_with (go_at_call 71; refine (hR'.out _).mono ?_; rintro e w6 ⟨rfl, rfl⟩)
          go_roundw
          case rel =>
            refine fin'.out v3 w6 ?_ ((qw2).trans qw3)
            have e : tstep out (f, l) = ((out ++ [44]) ++ dig f) := by
              rw [tstep_ne _ _ _ hne]
              simp [seg, hfl]
            rw [e]
            exact ho3
          case measure =>
            simp
            omega
end Go.Proofs.YtikdhfedidknpaaDoor.Mask
