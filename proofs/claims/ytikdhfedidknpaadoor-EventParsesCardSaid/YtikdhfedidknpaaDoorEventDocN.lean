/- What the document's number tells of a text: whether it is a number's figures, and whose. Conditions: the text is of at most 2^47 - 4096 bytes. -/
import Derived.Test.YtikdhfedidknpaaDoorEventDocF
namespace Go.Proofs.YtikdhfedidknpaaDoor.Event
open Go.ChangeShapes Go.WideShapes Go.ChangeAt Go.RowKit
open Mem (box_fresh owns_fresh)
set_option linter.unusedVariables false
set_option linter.unusedSimpArgs false
set_option maxRecDepth 100000

theorem dec_short : ∀ (k u : Nat), 1 ≤ k → u < 10 ^ k → (Lib.decDigits u).length ≤ k
  | 0, u, h, _ => by omega
  | k + 1, u, _, h => by
    by_cases h1 : u < 10
    · rw [Lib.decDigits_one h1]; simp
    · rw [dec_last h1, List.length_append, List.length_singleton]
      rw [Nat.pow_succ] at h
      have hk : 1 ≤ k := by
        apply Nat.lt_of_not_le
        intro h2
        obtain rfl : k = 0 := by omega
        omega
      have := dec_short k (u / 10) hk (by omega)
      omega
abbrev frOf (l : List UInt8) : Nat := if l.head? = some 45 then 1 else 0
theorem num_dig {l : List UInt8} {v : Int} (h : numOf l = some v) : (∀ c ∈ l.drop (frOf l), isDig c = true) ∧ l.length ≤ 20 := by
  obtain ⟨hv, rfl⟩ := numOf_some h
  have hp : (10 : Nat) ^ 19 = 10000000000000000000 := by decide
  obtain ⟨v1, v2⟩ := hv
  unfold frOf figs Lib.itoa
  by_cases h0 : v < 0
  · rw [if_pos h0]
    refine ⟨?_, ?_⟩
    · simp only [List.head?_cons, ↓reduceIte, List.drop_succ_cons, List.drop_zero]
      exact dec_dig _
    · have := dec_short 19 v.natAbs (by omega) (by rw [hp]; omega)
      simp only [List.length_cons]
      omega
  · rw [if_neg h0, if_neg (dec_head _)]
    refine ⟨dec_dig _, ?_⟩
    have := dec_short 19 v.toNat (by omega) (by rw [hp]; omega)
    omega
theorem numVal_fr (l : List UInt8) : numVal l = if frOf l = 1 then -(dval (l.drop (frOf l)) : Int) else dval (l.drop (frOf l)) := by
  unfold numVal frOf
  by_cases h : l.head? = some 45
  · rw [if_pos h, if_pos h, if_pos rfl, List.drop_one]
  · rw [if_neg h, if_neg h, if_neg (by decide), List.drop_zero]
theorem wrap_in (x : Int) : I64 (wrap64 x) := by
  unfold wrap64
  exact ⟨by omega, by omega⟩
theorem wrap_id {x : Int} (h : I64 x) : wrap64 x = x := by
  obtain ⟨h1, h2⟩ := h
  unfold wrap64
  omega
/-- What a text's figures come to, told from below 0. -/
def numN (l : List UInt8) : Int := if frOf l = 1 then wrap64 (-(dval (l.drop (frOf l)) : Int)) else wrap64 (-(wrap64 (-(dval (l.drop (frOf l)) : Int))))
theorem num_end (l : List UInt8) : numOf l = if figs (numN l) = l then some (numN l) else none := by
  have hN : I64 (numN l) := by
    unfold numN
    split
    · exact wrap_in _
    · exact wrap_in _
  by_cases h : figs (numN l) = l
  · rw [if_pos h]
    conv => lhs; rw [← h]
    exact numOf_figs hN
  · rw [if_neg h]
    cases hn : numOf l with
    | none => rfl
    | some v =>
      obtain ⟨hv, hf⟩ := numOf_some hn
      have e : numVal l = v := by rw [← hf]; exact numVal_figs v
      rw [numVal_fr] at e
      have e2 : numN l = v := by
        obtain ⟨v1, v2⟩ := hv
        unfold numN
        split at e
        · rename_i hc
          rw [if_pos hc, e]
          exact wrap_id ⟨v1, v2⟩
        · rename_i hc
          rw [if_neg hc, e]
          simp only [wrap64]
          omega
      rw [e2] at h
      exact absurd hf h
theorem take_next {l : List UInt8} {fr i : Nat} (h1 : fr ≤ i) {c : UInt8} (h2 : l[i]? = some c) : (l.drop fr).take (i + 1 - fr) = (l.drop fr).take (i - fr) ++ [c] := by
  rw [show i + 1 - fr = (i - fr) + 1 by omega, List.take_add_one, List.getElem?_drop, show fr + (i - fr) = i by omega, h2]
  rfl
/-- A number and whether it is one. -/
def IsNumD (l : List UInt8) (w : World) (e : Ending) (w' : World) : Prop := ∃ (N : Int) (b : Bool), e = .returned (.tuple #[.int .i64 N, .bool b]) ∧ numOf l = (if b = true then some N else none) ∧ I64 N ∧ Below w.heap.size w w'
def NuI (l : List UInt8) (fr : Nat) (w : World) (v t : Value) (wr : World) : Prop :=
  ∃ i : Nat, fr ≤ i ∧ i ≤ l.length ∧ t = .int .i64 i ∧ (∃ z, v = .int .i64 z ∧ Hid (z = wrap64 (-(dval ((l.drop fr).take (i - fr)) : Int)))) ∧ Hid (∀ c ∈ (l.drop fr).take (i - fr), isDig c = true) ∧ wr = w
set_option maxHeartbeats 4000000 in
theorem number_doc (l : List UInt8) (hl : l.length ≤ 140737488351232) (w : World) : Calls Tryd.prog 49 #[.string (str l)] w (IsNumD l w) := by
  have hfs := Lib.hid (str_size l)
  have hfd := Lib.hid (str_list l)
  have hfl := Lib.hid (str_toList l)
  have NE := Lib.hid (num_end l)
  have ND := Lib.hid (fun v (h : numOf l = some v) => num_dig h)
  have DF := Lib.hid (fun (n : Int) (h : I64 n) (w : World) => docFigs n h w)
  have hsz := hfs.out
  obtain ⟨fr, hfr⟩ : ∃ fr, fr = frOf l := ⟨_, rfl⟩
  have HN : Hid (numN l = if fr = 1 then wrap64 (-(dval (l.drop fr) : Int)) else wrap64 (-(wrap64 (-(dval (l.drop fr) : Int))))) := Lib.hid (by rw [hfr]; rfl)
  have hcase : (l.length = 0 ∧ fr = 0) ∨ (∃ c, 0 < l.length ∧ l[0]? = some c ∧ c ≠ 45 ∧ fr = 0) ∨ (0 < l.length ∧ l[0]? = some 45 ∧ fr = 1) := by
    rw [hfr]
    unfold frOf
    cases l with
    | nil => exact .inl ⟨rfl, by simp⟩
    | cons c l =>
      by_cases hc : c = 45
      · subst hc; exact .inr (.inr ⟨by simp, by simp, by simp⟩)
      · exact .inr (.inl ⟨c, by simp, by simp, hc, by simp [hc]⟩)
  rw [← hfr] at ND
  clear hfr
  generalize str l = F at *
  have st : ∀ f, f = fr → f ≤ l.length → Hid (NuI l f w (.int .i64 0) (.int .i64 f) w) := fun f _ hf => Lib.hid ⟨f, Nat.le_refl _, hf, rfl, ⟨0, rfl, Lib.hid (by rw [Nat.sub_self, List.take_zero]; simp [dval, wrap64])⟩, Lib.hid (by rw [Nat.sub_self, List.take_zero]; intro c hc; cases hc), rfl⟩
  have hst := Lib.hid st
  clear st
  have hb48 : ∀ c : UInt8, (c.toNat : Int) ≤ 255 := fun c => by have := c.toNat_lt; omega
  rcases hcase with ⟨h0, rfl⟩ | ⟨c0, h0, h1, h2, rfl⟩ | ⟨h0, h1, rfl⟩
  · have hF0 : F.size = 0 := by rw [hsz]; exact h0
    have st := hst.out 0 rfl (by omega)
    clear hst
    go_enter Tryd.func49, Tryd.ntmps49
    go_upto_region 7 with fail
    go_loopw [4, 7] (fun v t wr => NuI l 0 w v t wr) (fun _ t _ => F.size - (intOf t).toNat)
    case atStart => exact st.out
    case round =>
      clear st
      obtain ⟨i, hi1, hi2, rfl, ⟨z, rfl, hz⟩, hdg, hw⟩ := hrel
      replace hw := hw.symm
      subst hw
      by_cases hlt2 : i < F.size
      · exfalso; omega
      · obtain rfl : i = F.size := by omega
        have hNz : Hid (numN l = (wrap64 (-z))) := Lib.hid (by
          rw [HN.out]
          have hzo := hz.out
          rw [List.take_of_length_le (by rw [List.length_drop]; omega)] at hzo
          rw [hzo]
          rfl)
        have hN64 : I64 (wrap64 (-z)) := wrap_in _
        have DF1 := Lib.hid (fun (w : World) => DF.out (wrap64 (-z)) hN64 w)
        have NE2 : Hid (numOf l = if figs (wrap64 (-z)) = l then some (wrap64 (-z)) else none) := Lib.hid (by rw [← hNz.out]; exact NE.out)
        clear hdg hNz NE ND HN DF hz
        have hQ : (str (figs (wrap64 (-z)))).toList = figs (wrap64 (-z)) := str_toList _
        by_cases hfg : figs (wrap64 (-z)) = l
        · have hq : ((str (figs (wrap64 (-z)))).toList == F.toList) = true := by rw [hQ, hfl.out, hfg]; simp
          have hn1 : Hid (numOf l = some (wrap64 (-z))) := Lib.hid (by rw [NE2.out, if_pos hfg])
          clear hQ hfg NE2
          generalize str (figs (wrap64 (-z))) = S at *
          go_wp2_with (go_at_call 38; (with_reducible refine (DF1.out _).mono ?_); rintro e w2 ⟨rfl, hh⟩)
          go_ret2
          exact ⟨_, true, rfl, by rw [hn1.out]; rfl, hN64, hh⟩
        · have hq : ((str (figs (wrap64 (-z)))).toList == F.toList) = false := by rw [hQ, hfl.out]; simpa using hfg
          have hn1 : Hid (numOf l = none) := Lib.hid (by rw [NE2.out, if_neg hfg])
          clear hQ hfg NE2
          generalize str (figs (wrap64 (-z))) = S at *
          go_wp2_with (go_at_call 38; (with_reducible refine (DF1.out _).mono ?_); rintro e w2 ⟨rfl, hh⟩)
          go_ret2
          exact ⟨_, false, rfl, by rw [hn1.out]; rfl, hN64, hh⟩
  · have hlt0 : 0 < F.size := by omega
    have hlt0' : (0 : Int) < (F.size : Int) := by omega
    obtain ⟨f0, hf0⟩ : ∃ f, F[0] = f := ⟨_, rfl⟩
    have hat0 : l[0]? = some f0 := by rw [← hfd.out, Mask.data_at F 0 hlt0, hf0]
    obtain rfl : f0 = c0 := by rw [h1] at hat0; exact (Option.some.inj hat0).symm
    have hne : ((f0.toNat : Int) == 45) = false := by
      have : f0.toNat ≠ 45 := fun h => h2 (UInt8.toNat_inj.1 h)
      simpa using (show ¬ (f0.toNat : Int) = 45 by omega)
    have st := hst.out 0 rfl (by omega)
    clear hst h1 h2 hat0
    go_enter Tryd.func49, Tryd.ntmps49
    go_upto_region 7 with fail
    clear hne hf0
    go_loopw [4, 7] (fun v t wr => NuI l 0 w v t wr) (fun _ t _ => F.size - (intOf t).toNat)
    case atStart => exact st.out
    case round =>
      clear st
      obtain ⟨i, hi1, hi2, rfl, ⟨z, rfl, hz⟩, hdg, hw⟩ := hrel
      replace hw := hw.symm
      subst hw
      by_cases hlt2 : i < F.size
      · have hlt' : (i : Int) < (F.size : Int) := by omega
        obtain ⟨c, hc⟩ : ∃ c, F[i] = c := ⟨_, rfl⟩
        have hat : l[i]? = some c := by rw [← hfd.out, Mask.data_at F i hlt2, hc]
        have hmem : c ∈ l.drop 0 := List.mem_of_getElem? (i := i - 0) (by rw [List.getElem?_drop, show 0 + (i - 0) = i by omega]; exact hat)
        have hc255 := hb48 c
        by_cases hbad : isDig c = true ∧ l.length ≤ 20
        · obtain ⟨hd, hl20⟩ := hbad
          have hd0 := hd
          unfold isDig at hd
          have hd2 := of_decide_eq_true hd
          have c1 : ¬ (c.toNat : Int) < 48 := by omega
          have c2 : ¬ (57 : Int) < (c.toNat : Int) := by omega
          have c3 : ¬ (20 : Int) < (F.size : Int) := by omega
          obtain ⟨d, hd3⟩ : ∃ d : Nat, c.toNat = 48 + d := ⟨c.toNat - 48, by omega⟩
          have e1 : IntKind.u8.wrap ((c.toNat : Int) - 48) = (d : Int) := by rw [IntKind.wrap_u8]; omega
          have NX : Hid (∀ y, y = wrap64 (wrap64 (10 * z) - (d : Int)) → NuI l 0 w (.int .i64 y) (.int .i64 ((i : Int) + 1)) w) := Lib.hid (fun y hy => by
            have hzo := hz.out
            refine ⟨i + 1, by omega, by omega, by go_num, ⟨y, rfl, Lib.hid ?_⟩, Lib.hid ?_, rfl⟩
            · rw [take_next hi1 hat, dval_snoc, hy, hzo]
              simp only [wrap64]
              omega
            · rw [take_next hi1 hat]
              intro x hx
              rcases List.mem_append.1 hx with hx | hx
              · exact hdg.out x hx
              · rw [List.mem_singleton] at hx; rw [hx]; exact hd0)
          clear hdg hz hmem hat hd hd0 NE ND HN
          go_wp2_with fail
          go_roundw
          case rel => exact NX.out _ (by rw [show (48 : Int) + (d : Int) - 48 = d by omega])
          case measure => simp [intOf]; omega
        · have hno : numOf l = none := by
            cases hv : numOf l with
            | none => rfl
            | some v =>
              obtain ⟨n1, n2⟩ := ND.out v hv
              exact absurd ⟨n1 c hmem, n2⟩ hbad
          have hno' := Lib.hid hno
          have h3 : (c.toNat : Int) < 48 ∨ (¬ (c.toNat : Int) < 48 ∧ (57 : Int) < (c.toNat : Int)) ∨ (¬ (c.toNat : Int) < 48 ∧ ¬ (57 : Int) < (c.toNat : Int) ∧ (20 : Int) < (F.size : Int)) := by
            by_cases q1 : (c.toNat : Int) < 48
            · exact .inl q1
            by_cases q2 : (57 : Int) < (c.toNat : Int)
            · exact .inr (.inl ⟨q1, q2⟩)
            refine .inr (.inr ⟨q1, q2, ?_⟩)
            apply Int.lt_of_not_ge
            intro q3
            exact hbad ⟨by unfold isDig; simp; omega, by omega⟩
          clear hdg hz hmem hat hno hbad NE ND HN
          rcases h3 with q1 | ⟨q1, q2⟩ | ⟨q1, q2, q3⟩
          all_goals
            go_wp2_with fail
            go_ret2
            exact ⟨0, false, rfl, by rw [hno'.out]; rfl, ⟨by decide, by decide⟩, Below.refl _ _⟩
      · obtain rfl : i = F.size := by omega
        have hNz : Hid (numN l = (wrap64 (-z))) := Lib.hid (by
          rw [HN.out]
          have hzo := hz.out
          rw [List.take_of_length_le (by rw [List.length_drop]; omega)] at hzo
          rw [hzo]
          rfl)
        have hN64 : I64 (wrap64 (-z)) := wrap_in _
        have DF1 := Lib.hid (fun (w : World) => DF.out (wrap64 (-z)) hN64 w)
        have NE2 : Hid (numOf l = if figs (wrap64 (-z)) = l then some (wrap64 (-z)) else none) := Lib.hid (by rw [← hNz.out]; exact NE.out)
        clear hdg hNz NE ND HN DF hz
        have hQ : (str (figs (wrap64 (-z)))).toList = figs (wrap64 (-z)) := str_toList _
        by_cases hfg : figs (wrap64 (-z)) = l
        · have hq : ((str (figs (wrap64 (-z)))).toList == F.toList) = true := by rw [hQ, hfl.out, hfg]; simp
          have hn1 : Hid (numOf l = some (wrap64 (-z))) := Lib.hid (by rw [NE2.out, if_pos hfg])
          clear hQ hfg NE2
          generalize str (figs (wrap64 (-z))) = S at *
          go_wp2_with (go_at_call 38; (with_reducible refine (DF1.out _).mono ?_); rintro e w2 ⟨rfl, hh⟩)
          go_ret2
          exact ⟨_, true, rfl, by rw [hn1.out]; rfl, hN64, hh⟩
        · have hq : ((str (figs (wrap64 (-z)))).toList == F.toList) = false := by rw [hQ, hfl.out]; simpa using hfg
          have hn1 : Hid (numOf l = none) := Lib.hid (by rw [NE2.out, if_neg hfg])
          clear hQ hfg NE2
          generalize str (figs (wrap64 (-z))) = S at *
          go_wp2_with (go_at_call 38; (with_reducible refine (DF1.out _).mono ?_); rintro e w2 ⟨rfl, hh⟩)
          go_ret2
          exact ⟨_, false, rfl, by rw [hn1.out]; rfl, hN64, hh⟩
  · have hlt0 : 0 < F.size := by omega
    have hlt0' : (0 : Int) < (F.size : Int) := by omega
    have hat0 : l[0]? = some (F[0]) := by rw [← hfd.out, Mask.data_at F 0 hlt0]
    have hf0 : F[0] = 45 := by rw [h1] at hat0; exact (Option.some.inj hat0).symm
    have st := hst.out 1 rfl (by omega)
    clear hst h1 hat0
    go_enter Tryd.func49, Tryd.ntmps49
    go_upto_region 7 with fail
    clear hf0
    go_loopw [4, 7] (fun v t wr => NuI l 1 w v t wr) (fun _ t _ => F.size - (intOf t).toNat)
    case atStart => exact st.out
    case round =>
      clear st
      obtain ⟨i, hi1, hi2, rfl, ⟨z, rfl, hz⟩, hdg, hw⟩ := hrel
      replace hw := hw.symm
      subst hw
      by_cases hlt2 : i < F.size
      · have hlt' : (i : Int) < (F.size : Int) := by omega
        obtain ⟨c, hc⟩ : ∃ c, F[i] = c := ⟨_, rfl⟩
        have hat : l[i]? = some c := by rw [← hfd.out, Mask.data_at F i hlt2, hc]
        have hmem : c ∈ l.drop 1 := List.mem_of_getElem? (i := i - 1) (by rw [List.getElem?_drop, show 1 + (i - 1) = i by omega]; exact hat)
        have hc255 := hb48 c
        by_cases hbad : isDig c = true ∧ l.length ≤ 20
        · obtain ⟨hd, hl20⟩ := hbad
          have hd0 := hd
          unfold isDig at hd
          have hd2 := of_decide_eq_true hd
          have c1 : ¬ (c.toNat : Int) < 48 := by omega
          have c2 : ¬ (57 : Int) < (c.toNat : Int) := by omega
          have c3 : ¬ (20 : Int) < (F.size : Int) := by omega
          obtain ⟨d, hd3⟩ : ∃ d : Nat, c.toNat = 48 + d := ⟨c.toNat - 48, by omega⟩
          have e1 : IntKind.u8.wrap ((c.toNat : Int) - 48) = (d : Int) := by rw [IntKind.wrap_u8]; omega
          have NX : Hid (∀ y, y = wrap64 (wrap64 (10 * z) - (d : Int)) → NuI l 1 w (.int .i64 y) (.int .i64 ((i : Int) + 1)) w) := Lib.hid (fun y hy => by
            have hzo := hz.out
            refine ⟨i + 1, by omega, by omega, by go_num, ⟨y, rfl, Lib.hid ?_⟩, Lib.hid ?_, rfl⟩
            · rw [take_next hi1 hat, dval_snoc, hy, hzo]
              simp only [wrap64]
              omega
            · rw [take_next hi1 hat]
              intro x hx
              rcases List.mem_append.1 hx with hx | hx
              · exact hdg.out x hx
              · rw [List.mem_singleton] at hx; rw [hx]; exact hd0)
          clear hdg hz hmem hat hd hd0 NE ND HN
          go_wp2_with fail
          go_roundw
          case rel => exact NX.out _ (by rw [show (48 : Int) + (d : Int) - 48 = d by omega])
          case measure => simp [intOf]; omega
        · have hno : numOf l = none := by
            cases hv : numOf l with
            | none => rfl
            | some v =>
              obtain ⟨n1, n2⟩ := ND.out v hv
              exact absurd ⟨n1 c hmem, n2⟩ hbad
          have hno' := Lib.hid hno
          have h3 : (c.toNat : Int) < 48 ∨ (¬ (c.toNat : Int) < 48 ∧ (57 : Int) < (c.toNat : Int)) ∨ (¬ (c.toNat : Int) < 48 ∧ ¬ (57 : Int) < (c.toNat : Int) ∧ (20 : Int) < (F.size : Int)) := by
            by_cases q1 : (c.toNat : Int) < 48
            · exact .inl q1
            by_cases q2 : (57 : Int) < (c.toNat : Int)
            · exact .inr (.inl ⟨q1, q2⟩)
            refine .inr (.inr ⟨q1, q2, ?_⟩)
            apply Int.lt_of_not_ge
            intro q3
            exact hbad ⟨by unfold isDig; simp; omega, by omega⟩
          clear hdg hz hmem hat hno hbad NE ND HN
          rcases h3 with q1 | ⟨q1, q2⟩ | ⟨q1, q2, q3⟩
          all_goals
            go_wp2_with fail
            go_ret2
            exact ⟨0, false, rfl, by rw [hno'.out]; rfl, ⟨by decide, by decide⟩, Below.refl _ _⟩
      · obtain rfl : i = F.size := by omega
        have hNz : Hid (numN l = z) := Lib.hid (by
          rw [HN.out]
          have hzo := hz.out
          rw [List.take_of_length_le (by rw [List.length_drop]; omega)] at hzo
          rw [hzo]
          rfl)
        have hN64 : I64 z := by rw [hz.out]; exact wrap_in _
        have DF1 := Lib.hid (fun (w : World) => DF.out z hN64 w)
        have NE2 : Hid (numOf l = if figs z = l then some z else none) := Lib.hid (by rw [← hNz.out]; exact NE.out)
        clear hdg hNz NE ND HN DF hz
        have hQ : (str (figs z)).toList = figs z := str_toList _
        by_cases hfg : figs z = l
        · have hq : ((str (figs z)).toList == F.toList) = true := by rw [hQ, hfl.out, hfg]; simp
          have hn1 : Hid (numOf l = some z) := Lib.hid (by rw [NE2.out, if_pos hfg])
          clear hQ hfg NE2
          generalize str (figs z) = S at *
          go_wp2_with (go_at_call 38; (with_reducible refine (DF1.out _).mono ?_); rintro e w2 ⟨rfl, hh⟩)
          go_ret2
          exact ⟨_, true, rfl, by rw [hn1.out]; rfl, hN64, hh⟩
        · have hq : ((str (figs z)).toList == F.toList) = false := by rw [hQ, hfl.out]; simpa using hfg
          have hn1 : Hid (numOf l = none) := Lib.hid (by rw [NE2.out, if_neg hfg])
          clear hQ hfg NE2
          generalize str (figs z) = S at *
          go_wp2_with (go_at_call 38; (with_reducible refine (DF1.out _).mono ?_); rintro e w2 ⟨rfl, hh⟩)
          go_ret2
          exact ⟨_, false, rfl, by rw [hn1.out]; rfl, hN64, hh⟩
end Go.Proofs.YtikdhfedidknpaaDoor.Event
