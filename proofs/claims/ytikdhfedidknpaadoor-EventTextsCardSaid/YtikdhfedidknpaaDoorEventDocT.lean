/- What the document's Text makes of any events. Conditions: the events' numbers are of their kinds; there are at most 2^30. -/
import Derived.Test.YtikdhfedidknpaaDoorEventDocL
namespace Go.Proofs.YtikdhfedidknpaaDoor.Event
open Go.ChangeShapes Go.WideShapes Go.ChangeAt Go.RowKit
open Mem (box_fresh owns_fresh)
set_option linter.unusedVariables false
set_option linter.unusedSimpArgs false
set_option maxRecDepth 100000

set_option maxHeartbeats 4000000 in
theorem docText (a : Option Addr) (l : List Ev) (cap : Nat) (w : World) (hV : Evs a l w) (hok : ∀ e ∈ l, e.Ok) (hl : l.length ≤ 1073741824) : Calls Tryd.prog 14 #[.slice a l.length cap] w (IsTexted (textP MK l) w) := by
  obtain ⟨i0, hi, hz0, hz1, hz2⟩ := Mem.info_parts Mask.infoU8
  have MM := Lib.hid (fun (w : World) (e : Ev) => docMay e w)
  have OK := Lib.hid hok
  clear hok
  have st : Hid (TxI l w (.int .i64 0) w) := Lib.hid ⟨0, Nat.zero_le _, rfl, fun j e hj => absurd hj (Nat.not_lt_zero _), Below.refl _ _⟩
  obtain ⟨n, hn⟩ : ∃ n, n = l.length := ⟨_, rfl⟩
  have hn' := Lib.hid hn
  rw [← hn] at hl ⊢
  clear hn
  go_enter Tryd.func14, Tryd.ntmps14
  go_wp2
  go_loopw [4] (fun t wr => TxI l w t wr) (fun t _ => n - (intOf t).toNat)
  case atStart => exact st.out
  case round =>
    clear st
    obtain ⟨k, hk, rfl, hmay, hg⟩ := hrel
    rw [← hn'.out] at hk
    by_cases hlt : k < n
    · have hlt' : (k : Int) < n := by omega
      obtain ⟨e, he⟩ : ∃ e, l[k]? = some e := ⟨_, List.getElem?_eq_getElem (by rw [← hn'.out]; exact hlt)⟩
      obtain ⟨b, off, rfl, hb, c0, c1, c2, c3, c4, c5⟩ := (hV.fresh hg) k e he
      have M1 := Lib.hid (fun (w : World) => MM.out w e)
      have NX : Hid (may e = true → ∀ W, Below w.heap.size w W → TxI l w (.int .i64 ((k : Int) + 1)) W) := Lib.hid (fun hm W hW => ⟨k + 1, by rw [← hn'.out]; omega, by go_num, fun j x hj hx => by
        by_cases hjk : j = k
        · subst hjk; rw [he] at hx; cases hx; exact hm
        · exact hmay j x (by omega) hx, hW⟩)
      have NO : Hid (may e = false → textP MK l = ([], 1)) := Lib.hid (fun hm => not_all he hm)
      obtain ⟨ek, ea, eb, en, em, es⟩ := e
      unfold evV evC at M1
      simp only at M1 c0 c1 c2 c3 c4 c5
      generalize may ⟨ek, ea, eb, en, em, es⟩ = bm at *
      clear hmay he MM OK
      cases bm with
      | true =>
        go_wp2_with (go_at_call 18; refine (M1.out _).mono ?_; rintro e w1 ⟨rfl, h1⟩; replace hg := hg.trans (h1.mono hg.size); clear h1)
        go_roundw
        case rel => exact NX.out (by trivial) _ hg
        case measure => simp [intOf]; omega
      | false =>
        go_wp2_with (go_at_call 18; refine (M1.out _).mono ?_; rintro e w1 ⟨rfl, h1⟩; replace hg := hg.trans (h1.mono hg.size); clear h1)
        go_ret2
        refine ⟨?_, hg⟩
        rw [NO.out (by trivial)]
        rfl
    · obtain rfl : k = n := by omega
      have hall : l.all may = true := all_may (fun j e hj hx => hmay j e (by rw [hn'.out]; exact hj) hx)
      by_cases hbig : 1000 < k
      · have hb' : (1000 : Int) < (k : Int) := by omega
        have hx : Hid (textP MK l = ([], 3)) := Lib.hid (by unfold textP; rw [if_pos hall, if_pos (by rw [← hn'.out]; exact hbig)])
        have hg' := Lib.hid hg
        clear hmay hg hall MM OK hV hbig hk
        go_wp2_with fail
        go_ret2
        exact ⟨by rw [hx.out]; rfl, hg'.out⟩
      · have hb' : ¬ (1000 : Int) < (k : Int) := by omega
        have hx : Hid (textP MK l = (linesT MK l, 0)) := Lib.hid (by unfold textP; rw [if_pos hall, if_neg (by rw [← hn'.out]; exact hbig)])
        have st2 : Hid (TyI l w (.slice none 0 0) (.int .i64 0) wr) := Lib.hid ⟨0, [], Nat.zero_le _, rfl, ⟨rfl, .inl ⟨rfl, rfl⟩⟩, rfl, by simp, hg⟩
        have HM := Lib.hid (fun j e (hj : j < k) (hx : l[j]? = some e) => hmay j e hj hx)
        have LL := Lib.hid (fun (w : World) (e : Ev) (he : e ∈ l) (hm : may e = true) => docLine e (OK.out e he) (may_kind hm).1 (may_kind hm).2 w)
        have LS := Lib.hid (fun (e : Ev) (he : e ∈ l) (hm : may e = true) => line_short e (OK.out e he) (may_kind hm).1 (may_kind hm).2)
        clear hmay hall MM OK hlt hbig
        go_wp2_with fail
        go_loopw [5, 6] (fun v t wr => TyI l w v t wr) (fun _ t _ => k - (intOf t).toNat)
        case atStart => exact st2.out
        case round =>
          clear st2 hg
          obtain ⟨i, out, hi', rfl, hO, hout, hol, hg⟩ := hrel
          rw [← hn'.out] at hi'
          obtain ⟨va, vc, rfl⟩ := out_shape hO
          by_cases hlt : i < k
          · have hlt' : (i : Int) < k := by omega
            obtain ⟨e, he⟩ : ∃ e, l[i]? = some e := ⟨_, List.getElem?_eq_getElem (by rw [← hn'.out]; exact hlt)⟩
            obtain ⟨b, off, rfl, hb, c0, c1, c2, c3, c4, c5⟩ := (hV.fresh hg) i e he
            have hm := HM.out i e hlt he
            have L1 := Lib.hid (fun (w : World) => LL.out w e (List.mem_of_getElem? he) hm)
            have ls := LS.out e (List.mem_of_getElem? he) hm
            have NX : Hid (∀ v' W, Mask.Out w.heap.size v' (out ++ lineT MK e ++ [10]) W → Below w.heap.size w W → TyI l w v' (.int .i64 ((i : Int) + 1)) W) := Lib.hid (fun v' W h1 h2 => ⟨i + 1, _, by rw [← hn'.out]; omega, by go_num, h1, by
              rw [hout, List.take_add_one, he]
              simp [linesT], by simp only [List.length_append] at ls ⊢; omega, h2⟩)
            obtain ⟨ek, ea, eb, en, em, es⟩ := e
            unfold evV evC at L1
            simp only at L1 c0 c1 c2 c3 c4 c5
            have hO2 := Lib.hid hO
            have hsz := str_size (lineT MK ⟨ek, ea, eb, en, em, es⟩)
            have hol2 : out.length ≤ 1162000 := by omega
            have eb2 : Lib.byteCells (lineT MK ⟨ek, ea, eb, en, em, es⟩) = Lib.byteCells (str (lineT MK ⟨ek, ea, eb, en, em, es⟩)).data.toList := by rw [str_list]
            rw [List.length_append, List.length_singleton] at ls
            generalize lineT MK ⟨ek, ea, eb, en, em, es⟩ = ln at *
            clear hO hout hol he hm LL LS HM
            go_upto_region 13 with (first
              | (go_at_call 25; refine (L1.out _).mono ?_; rintro e w1 ⟨rfl, h1⟩; replace hO2 := Lib.hid (owns_fresh hO2.out h1); replace hg := hg.trans (h1.mono hg.size); clear h1)
              | (at_builtin; refine Lib.wpList_append_own_string _ rfl _ _ 54 9 rfl w.heap.size 5 i0 Tryd.underlying54 Tryd.underlying9 hi hz0 hz1 hz2 _ _ _ rfl hO2.out (str ln) rfl (by rw [hsz]; unfold maxLen; omega) (by rw [hsz]; omega) hg.size ?_; intro v' w3 hown' hgrow _))
            have hg3 := hg.grown hgrow hg.size (fun k hk => (hO2.out.lt k hk).1)
            have hO3 : Mask.Out w.heap.size v' (out ++ ln) w3 := by
              unfold Mask.Out
              rw [Mask.byteCells_append, List.length_append, eb2, ← hsz]
              exact hown'
            clear hgrow hown' hO2 hg
            obtain ⟨vb, vd, rfl⟩ := out_shape hO3
            have hll : (out ++ ln).length ≤ 1164000 := by rw [List.length_append]; omega
            go_wp2_with (at_builtin; refine wpList_append_own _ rfl _ _ 54 rfl w.heap.size 5 i0 (.int .u8 0) 1 1 Tryd.underlying54 hi hz0 hz1 hz2 rfl (by decide) _ _ _ rfl (hO3.alloc _) ⟨w3.heap.size, 0, none⟩ 1 1 [.int .u8 10] rfl rfl (cell_one_new _ _ _) (by simp [Value.oneCell']) (by unfold maxLen; omega) (by omega) (by have := hg3.size; show w.heap.size ≤ (w3.heap.push _).size; rw [Array.size_push]; omega) ?_; intro v4 w4 hown4 hgrow4 _; obtain ⟨ho4, qw4⟩ := Mask.appByte (c := 10) hO3 hg3.size hown4 _ hgrow4)
            go_roundw
            case rel => exact NX.out v4 w4 ho4 (hg3.trans qw4)
            case measure => simp [intOf]; omega
          · obtain rfl : i = k := by omega
            have hs := hO.string
            have hx2 : Hid (out = linesT MK l) := Lib.hid (by rw [hout, List.take_of_length_le (by rw [← hn'.out]; exact Nat.le_refl _)])
            have hg' := Lib.hid hg
            have hs' : (convert 54 9 (.slice va out.length vc)).run Tryd.prog wr = .ok (.string (str out)) wr := hs
            clear hO hout hol hg hV LL LS HM hs
            go_wp2_with fail
            go_ret2
            refine ⟨?_, hg'.out⟩
            rw [hx.out, ← hx2.out]
            rfl
end Go.Proofs.YtikdhfedidknpaaDoor.Event
