/- What the document's Text tells of a set: just what mask.Text does. Conditions: the set is a word. -/
import Derived.Test.YtikdhfedidknpaaDoorMaskRefH
import Derived.Test.YtikdhfedidknpaaDoorMaskFigs
import Derived.Laws.Concat
namespace Go.Proofs.YtikdhfedidknpaaDoor.Mask
open Go.ChangeShapes Go.WideShapes Go.ChangeAt Go.RowKit
set_option linter.unusedVariables false
set_option linter.unusedSimpArgs false
set_option maxRecDepth 100000

def str (l : List UInt8) : ByteArray := ⟨l.toArray⟩
theorem str_size (l : List UInt8) : (str l).size = l.length := by simp [str, ByteArray.size]
theorem str_append (a b : List UInt8) : str a ++ str b = str (a ++ b) := by
  apply ByteArray.ext
  simp [str]
theorem str_add (a b : List UInt8) (h : a.length + b.length ≤ 9223372036854775807) (w : World) : (Op.stringOp .add (str a) (str b)).run Tryd.prog w = .ok (.string (str (a ++ b))) w := by
  rw [run_string_add_sum w _ _ (by rw [str_size, str_size]; exact h), str_append]
theorem str_empty (l : List UInt8) : (str l).toList.isEmpty = l.isEmpty := by rw [str_toList]; rfl

theorem runs_step (m k : Nat) (hk : k < 64) : runs m k (64 - k) = if starts m k then (k, up m k 64) :: runs m (k + 1) (64 - (k + 1)) else runs m (k + 1) (64 - (k + 1)) := by
  rw [show 64 - k = (64 - (k + 1)) + 1 by omega]
  rfl
theorem up_lt (m : Nat) (hm : m < 18446744073709551616) : ∀ (k p : Nat), p < 64 → up m p k < 64 ∧ p ≤ up m p k
  | 0, p, h => ⟨h, Nat.le_refl _⟩
  | k + 1, p, h => by
    unfold up
    split
    · rename_i hb
      have : p + 1 < 64 := by
        apply Nat.lt_of_not_le
        intro h1
        rw [has_hi m hm _ h1] at hb
        cases hb
      have := up_lt m hm k (p + 1) this
      omega
    · exact ⟨h, Nat.le_refl _⟩

def DTI (m : Nat) (w : World) (s p : Value) (wr : World) : Prop := ∃ (k : Nat) (out : List UInt8), k ≤ 64 ∧ s = .string (str out) ∧ p = .int .i64 k ∧ out.length ≤ 6 * k ∧ Hid ((runs m k (64 - k)).foldl tstep out = text m) ∧ Below w.heap.size w wr

set_option maxHeartbeats 4000000 in
theorem docText (m : Nat) (hm : m < 18446744073709551616) (w : World) : Calls Tryd.prog 39 #[.int .u64 m] w (IsStr (text m) w) := by
  have HS := Lib.hid (fun (p : Int) (w : World) => docHas m p hm w)
  have st : Hid (DTI m w (.string ⟨#[]⟩) (.int .i64 0) w) := Lib.hid ⟨0, [], by omega, rfl, rfl, by simp, Lib.hid rfl, Below.refl _ _⟩
  go_enter Tryd.func39, Tryd.ntmps39
  go_wp2
  go_loopw [3, 4] (fun s p wr => DTI m w s p wr) (fun _ p _ => match p with | .int _ z => 64 - z.toNat | _ => 0)
  case atStart => exact st.out
  case round =>
    obtain ⟨k, out, hk, rfl, rfl, hlen, hR, hb⟩ := hrel
    by_cases hlt : k < 64
    · have hlt' : (k : Int) < 64 := by omega
      have rs := runs_step m k hlt
      have hb' := Lib.hid hb
      clear hb
      by_cases hst : starts m k = true
      · have hbk : m.testBit k = true := by simp [starts] at hst; exact hst.1
        have hpk : has' m ((k : Int) - 1) = false := by
          unfold has'
          rcases Nat.eq_zero_or_pos k with rfl | hk0
          · simp
          · have h3 : m.testBit (k - 1) = false := by simp [starts, hbk] at hst; exact hst.resolve_left (by omega)
            rw [show ((k : Int) - 1).toNat = k - 1 by omega, h3]
            simp
        have H := Lib.hid (docHas m k hm wr)
        rw [show has' m (k : Int) = true by simp [has', hbk]] at H
        have H2 := Lib.hid (docHas m ((k : Int) - 1) hm wr)
        rw [hpk] at H2
        obtain ⟨l, hl⟩ : ∃ l, up m k 64 = l := ⟨_, rfl⟩
        have hul := up_lt m hm 64 k hlt
        rw [hl] at hul
        obtain ⟨hl64, hkl0⟩ := hul
        rw [hst, if_pos rfl, hl] at rs
        have nx : Hid (∀ (S : ByteArray) (W : World), S = str (tstep out (k, l)) → Below wr.heap.size wr W → DTI m w (.string S) (.int .i64 ((k + 1 : Nat) : Int)) W) := by
          refine Lib.hid (fun S W e1 h1 => ?_)
          have hsl := seg_len k l
          have hol : (tstep out (k, l)).length ≤ out.length + 6 := by
            unfold tstep
            split <;> simp <;> omega
          refine ⟨k + 1, tstep out (k, l), by omega, by rw [e1], rfl, by omega, Lib.hid ?_, hb'.out.trans (h1.mono hb'.out.size)⟩
          rw [← hR.out, rs]
          rfl
        have DF : Hid (∀ (n : Nat), n < 100 → ∀ w, Calls Tryd.prog 54 #[.int .i64 n] w (fun e w' => e = .returned (.string (str (dig n))) ∧ Below w.heap.size w w')) := Lib.hid (fun n h w => docFigs n h w)
        have dk := dig_len k
        have dl := dig_len l
        clear hR rs hb' hst hbk hpk
        go_wp2_with fail
        refine H.out.mono ?_; rintro e w1 ⟨rfl, hw⟩; replace hw := hw.symm; subst hw
        go_wp2_with fail
        refine H2.out.mono ?_; rintro e w1 ⟨rfl, hw⟩; replace hw := hw.symm; subst hw
        go_wp2_with fail
        go_loop [5] (fun x => ∃ j : Nat, k ≤ j ∧ j < 64 ∧ x = .int .i64 j ∧ Hid (up m j (64 - (j - k)) = l)) (fun x => match x with | .int _ z => 64 - z.toNat | _ => 0)
        case atStart => exact ⟨k, Nat.le_refl _, hlt, rfl, Lib.hid (by rw [Nat.sub_self]; exact hl)⟩
        case round =>
          obtain ⟨j, hj1, hj2, rfl, hU⟩ := hrel
          have HJ := Lib.hid (docHas m ((j : Int) + 1) hm wr)
          have ej : has' m ((j : Int) + 1) = m.testBit (j + 1) := by
            unfold has'
            rw [show ((j : Int) + 1).toNat = j + 1 by omega]
            simp
            intro h
            omega
          rw [ej] at HJ
          have hup : up m j (64 - (j - k)) = if m.testBit (j + 1) then up m (j + 1) (64 - (j + 1 - k)) else j := by
            rw [show 64 - (j - k) = (64 - (j + 1 - k)) + 1 by omega]
            rfl
          cases hbj : m.testBit (j + 1) with
          | true =>
            have hj3 : j + 1 < 64 := by
              apply Nat.lt_of_not_le
              intro h1
              rw [has_hi m hm _ h1] at hbj
              cases hbj
            have hU' : Hid (up m (j + 1) (64 - (j + 1 - k)) = l) := Lib.hid (by
              have := hU.out
              rw [hup, hbj, if_pos rfl] at this
              exact this)
            rw [hbj] at HJ
            clear hup hU ej hbj
            go_wp2_with (go_at_call 53; refine HJ.out.mono ?_; rintro e w1 ⟨rfl, hw⟩; replace hw := hw.symm; subst hw)
            exact ⟨⟨j + 1, by omega, hj3, by simp, hU'⟩, by simp; omega⟩
          | false =>
            have hjl : j = l := by
              have := hU.out
              rw [hup, hbj, if_neg (by decide)] at this
              exact this
            rw [hbj] at HJ
            clear hup hU ej hbj
            subst hjl
            by_cases hne : out = []
            · subst hne
              by_cases hkl : k < j
              · have emp : (str []).toList.isEmpty = true := by rw [str_empty]; rfl
                have cK : ∀ w, (Op.stringOp .add (str ([] : List UInt8)) (str (dig k))).run Tryd.prog w = .ok (.string (str (([] : List UInt8) ++ dig k))) w := fun w => str_add ([] : List UInt8) (dig k) (by simp; omega) w
                have c45 : ∀ w, (Op.stringOp .add (str (([] : List UInt8) ++ dig k)) ⟨#[45]⟩).run Tryd.prog w = .ok (.string (str (([] : List UInt8) ++ dig k ++ [45]))) w := fun w => str_add (([] : List UInt8) ++ dig k) [45] (by simp; omega) w
                have cL : ∀ w, (Op.stringOp .add (str (([] : List UInt8) ++ dig k ++ [45])) (str (dig j))).run Tryd.prog w = .ok (.string (str (([] : List UInt8) ++ dig k ++ [45] ++ dig j))) w := fun w => str_add (([] : List UInt8) ++ dig k ++ [45]) (dig j) (by simp; omega) w
                have hkl' : (k : Int) < (j : Int) := by omega
                have TE : str (([] : List UInt8) ++ dig k ++ [45] ++ dig j) = str (tstep [] (k, j)) := congrArg str (by simp [tstep, seg, hkl])
                generalize str (([] : List UInt8) ++ dig k ++ [45] ++ dig j) = S4 at *
                generalize str (([] : List UInt8) ++ dig k ++ [45]) = S3 at *
                generalize str (([] : List UInt8) ++ dig k) = S2 at *
                generalize str ([] : List UInt8) = S0 at *
                have TE' := Lib.hid TE
                clear TE
                go_wp2_with (go_at_call 53; refine HJ.out.mono ?_; rintro e w1 ⟨rfl, hw⟩; replace hw := hw.symm; subst hw)
                refine (DF.out k (by omega) _).mono ?_; rintro e w1 ⟨rfl, hg1⟩
                go_wp2_with fail
                refine (DF.out j (by omega) _).mono ?_; rintro e w2 ⟨rfl, hg2⟩
                go_wp2_with fail
                rw [show (k : Int) + 1 = ((k + 1 : Nat) : Int) by omega]
                exact ⟨nx.out _ _ TE'.out (hg1.trans (hg2.mono hg1.size)), by simp; omega⟩
              · have emp : (str []).toList.isEmpty = true := by rw [str_empty]; rfl
                have cK : ∀ w, (Op.stringOp .add (str ([] : List UInt8)) (str (dig k))).run Tryd.prog w = .ok (.string (str (([] : List UInt8) ++ dig k))) w := fun w => str_add ([] : List UInt8) (dig k) (by simp; omega) w
                have hkl' : ¬ (k : Int) < (j : Int) := by omega
                have TE : str (([] : List UInt8) ++ dig k) = str (tstep [] (k, j)) := congrArg str (by simp [tstep, seg, hkl])
                generalize str (([] : List UInt8) ++ dig k) = S2 at *
                generalize str ([] : List UInt8) = S0 at *
                have TE' := Lib.hid TE
                clear TE
                go_wp2_with (go_at_call 53; refine HJ.out.mono ?_; rintro e w1 ⟨rfl, hw⟩; replace hw := hw.symm; subst hw)
                refine (DF.out k (by omega) _).mono ?_; rintro e w1 ⟨rfl, hg1⟩
                go_wp2_with fail
                rw [show (k : Int) + 1 = ((k + 1 : Nat) : Int) by omega]
                exact ⟨nx.out _ _ TE'.out hg1, by simp; omega⟩
            · by_cases hkl : k < j
              · have emp : (str out).toList.isEmpty = false := by rw [str_empty]; simpa using hne
                have c44 : ∀ w, (Op.stringOp .add (str out) ⟨#[44]⟩).run Tryd.prog w = .ok (.string (str (out ++ [44]))) w := fun w => str_add out [44] (by simp; omega) w
                have cK : ∀ w, (Op.stringOp .add (str (out ++ [44])) (str (dig k))).run Tryd.prog w = .ok (.string (str ((out ++ [44]) ++ dig k))) w := fun w => str_add (out ++ [44]) (dig k) (by simp; omega) w
                have c45 : ∀ w, (Op.stringOp .add (str ((out ++ [44]) ++ dig k)) ⟨#[45]⟩).run Tryd.prog w = .ok (.string (str ((out ++ [44]) ++ dig k ++ [45]))) w := fun w => str_add ((out ++ [44]) ++ dig k) [45] (by simp; omega) w
                have cL : ∀ w, (Op.stringOp .add (str ((out ++ [44]) ++ dig k ++ [45])) (str (dig j))).run Tryd.prog w = .ok (.string (str ((out ++ [44]) ++ dig k ++ [45] ++ dig j))) w := fun w => str_add ((out ++ [44]) ++ dig k ++ [45]) (dig j) (by simp; omega) w
                have hkl' : (k : Int) < (j : Int) := by omega
                have TE : str ((out ++ [44]) ++ dig k ++ [45] ++ dig j) = str (tstep out (k, j)) := congrArg str (by simp [tstep, seg, hkl, hne])
                generalize str ((out ++ [44]) ++ dig k ++ [45] ++ dig j) = S4 at *
                generalize str ((out ++ [44]) ++ dig k ++ [45]) = S3 at *
                generalize str ((out ++ [44]) ++ dig k) = S2 at *
                generalize str (out ++ [44]) = S1 at *
                generalize str out = S0 at *
                have TE' := Lib.hid TE
                clear TE hne
                go_wp2_with (go_at_call 53; refine HJ.out.mono ?_; rintro e w1 ⟨rfl, hw⟩; replace hw := hw.symm; subst hw)
                refine (DF.out k (by omega) _).mono ?_; rintro e w1 ⟨rfl, hg1⟩
                go_wp2_with fail
                refine (DF.out j (by omega) _).mono ?_; rintro e w2 ⟨rfl, hg2⟩
                go_wp2_with fail
                rw [show (k : Int) + 1 = ((k + 1 : Nat) : Int) by omega]
                exact ⟨nx.out _ _ TE'.out (hg1.trans (hg2.mono hg1.size)), by simp; omega⟩
              · have emp : (str out).toList.isEmpty = false := by rw [str_empty]; simpa using hne
                have c44 : ∀ w, (Op.stringOp .add (str out) ⟨#[44]⟩).run Tryd.prog w = .ok (.string (str (out ++ [44]))) w := fun w => str_add out [44] (by simp; omega) w
                have cK : ∀ w, (Op.stringOp .add (str (out ++ [44])) (str (dig k))).run Tryd.prog w = .ok (.string (str ((out ++ [44]) ++ dig k))) w := fun w => str_add (out ++ [44]) (dig k) (by simp; omega) w
                have hkl' : ¬ (k : Int) < (j : Int) := by omega
                have TE : str ((out ++ [44]) ++ dig k) = str (tstep out (k, j)) := congrArg str (by simp [tstep, seg, hkl, hne])
                generalize str ((out ++ [44]) ++ dig k) = S2 at *
                generalize str (out ++ [44]) = S1 at *
                generalize str out = S0 at *
                have TE' := Lib.hid TE
                clear TE hne
                go_wp2_with (go_at_call 53; refine HJ.out.mono ?_; rintro e w1 ⟨rfl, hw⟩; replace hw := hw.symm; subst hw)
                refine (DF.out k (by omega) _).mono ?_; rintro e w1 ⟨rfl, hg1⟩
                go_wp2_with fail
                rw [show (k : Int) + 1 = ((k + 1 : Nat) : Int) by omega]
                exact ⟨nx.out _ _ TE'.out hg1, by simp; omega⟩
      · have hst' : starts m k = false := by simpa using hst
        have nx : Hid (DTI m w (.string (str out)) (.int .i64 ((k + 1 : Nat) : Int)) wr) := by
          rw [hst', if_neg (by decide)] at rs
          exact Lib.hid ⟨k + 1, out, by omega, rfl, rfl, by omega, Lib.hid (by rw [← rs]; exact hR.out), hb'.out⟩
        cases hbk : m.testBit k with
        | false =>
          have H := Lib.hid (docHas m k hm wr)
          rw [show has' m (k : Int) = false by simp [has', hbk]] at H
          clear rs hR hst hst' hbk
          go_wp2_with (go_at_call 53; refine H.out.mono ?_; rintro e w1 ⟨rfl, hw⟩; replace hw := hw.symm; subst hw)
          rw [show (k : Int) + 1 = ((k + 1 : Nat) : Int) by omega]
          exact ⟨nx.out, by simp; omega⟩
        | true =>
          have H := Lib.hid (docHas m k hm wr)
          rw [show has' m (k : Int) = true by simp [has', hbk]] at H
          have h2 : 0 < k ∧ m.testBit (k - 1) = true := by simpa [starts, hbk] using hst'
          have H2 := Lib.hid (docHas m ((k : Int) - 1) hm wr)
          rw [show has' m ((k : Int) - 1) = true by
            unfold has'
            rw [show ((k : Int) - 1).toNat = k - 1 by omega, h2.2]
            simp
            omega] at H2
          have hk0 := h2.1
          clear rs hR hst hst' hbk h2
          go_wp2_with fail
          refine H.out.mono ?_; rintro e w1 ⟨rfl, hw⟩; replace hw := hw.symm; subst hw
          go_wp2_with fail
          refine H2.out.mono ?_; rintro e w1 ⟨rfl, hw⟩; replace hw := hw.symm; subst hw
          go_wp2_with fail
          rw [show (k : Int) + 1 = ((k + 1 : Nat) : Int) by omega]
          exact ⟨nx.out, by simp; omega⟩
    · obtain rfl : k = 64 := by omega
      have e := hR.out
      have e' : out = text m := e
      have hb' := Lib.hid hb
      clear hR e hb
      go_wp2_with fail
      go_ret
      exact ⟨by rw [← e']; rfl, hb'.out⟩
end Go.Proofs.YtikdhfedidknpaaDoor.Mask
