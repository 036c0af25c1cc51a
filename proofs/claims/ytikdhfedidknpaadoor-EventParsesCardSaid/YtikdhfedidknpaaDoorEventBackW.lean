/- The laws EventBack and EventAgain, walked. Conditions: the listed variables hold what they are listed with; numbers are of their kinds. -/
import Derived.Test.YtikdhfedidknpaaDoorEventLaws
namespace Go.Proofs.YtikdhfedidknpaaDoor.Event
open Go.ChangeShapes Go.WideShapes Go.ChangeAt Go.RowKit
open Mem (box_fresh owns_fresh)
set_option linter.unusedVariables false
set_option linter.unusedSimpArgs false
set_option maxRecDepth 100000

theorem lines_len : ∀ (l : List Ev), (∀ e ∈ l, e.Ok ∧ may e = true) → (linesT MK l).length ≤ 1162 * l.length
  | [], _ => by simp [linesT]
  | e :: l, h => by
    have h1 := h e (by simp)
    have h2 := line_short e h1.1 (may_kind h1.2).1 (may_kind h1.2).2
    have h3 := lines_len l (fun x hx => h x (by simp [hx]))
    unfold linesT at h3 ⊢
    rw [List.flatMap_cons, List.length_append, List.length_cons]
    simp only [List.length_append, List.length_singleton] at h2 h3 ⊢
    omega
def BaI (l : List Ev) (w : World) (v t : Value) (wr : World) : Prop := ∃ (k : Nat) (b : Bool), k ≤ l.length ∧ t = .int .i64 k ∧ v = .bool b ∧ Hid (b = (l.take k).all may) ∧ Below w.heap.size w wr
theorem take_all (l : List Ev) (k : Nat) (e : Ev) (h : l[k]? = some e) : (l.take (k + 1)).all may = ((l.take k).all may && may e) := by
  rw [List.take_add_one, h, List.all_append]
  simp
set_option maxHeartbeats 4000000 in
theorem back_ (a : Option Addr) (l : List Ev) (cap : Nat) (w : World) (hT : Tab w) (hV : Evs a l w) (hok : ∀ e ∈ l, e.Ok) (hl : l.length ≤ 9223372036854775807) : Calls Tryd.prog 5 #[.slice a l.length cap] w (IsYes w) := by
  have S0 := Lib.hid (fun (w : World) (hT : Tab w) => shown w hT)
  have TX := Lib.hid (fun (w : World) (hT : Tab w) (hV : Evs a l w) (hl : l.length ≤ 1073741824) => text_ a l cap w hT hV hok hl)
  obtain ⟨n, hn⟩ : ∃ n, n = l.length := ⟨_, rfl⟩
  have hn' := Lib.hid hn
  rw [← hn] at hl ⊢
  have OK := Lib.hid hok
  clear hok hn
  by_cases hbig : 1000 < n
  · have hb' : (1000 : Int) < (n : Int) := by omega
    clear TX
    go_enter Tryd.func5, Tryd.ntmps5
    go_wp2_with (go_at_call 9; refine (S0.out _ hT).mono ?_; rintro e w1 ⟨rfl, hg⟩)
    go_ret
    exact ⟨rfl, hg⟩
  · have hb' : ¬ (1000 : Int) < (n : Int) := by omega
    go_enter Tryd.func5, Tryd.ntmps5
    go_wp2_with (go_at_call 9; refine (S0.out _ hT).mono ?_; rintro e w1 ⟨rfl, hg⟩)
    go_loopw [4, 5] (fun v t wr => BaI l w v t wr) (fun _ t _ => n - (intOf t).toNat)
    case atStart => exact ⟨0, true, Nat.zero_le _, rfl, rfl, Lib.hid rfl, hg⟩
    case round =>
      clear hg
      obtain ⟨k, b, hk, rfl, rfl, hb, hg⟩ := hrel
      rw [← hn'.out] at hk
      have hT1 := hT.fresh hg
      have hV1 := hV.fresh hg
      by_cases hlt : k < n
      · have hlt' : (k : Int) < n := by omega
        obtain ⟨e, he⟩ : ∃ e, l[k]? = some e := ⟨_, List.getElem?_eq_getElem (by rw [← hn'.out]; exact hlt)⟩
        obtain ⟨bb, off, rfl, _, c0, c1, c2, c3, c4, c5⟩ := hV1 k e he
        have M1 := Lib.hid (fun (w : World) (hT : Tab w) => may_ e w hT)
        have NX := Lib.hid (fun (W : World) (hW : Below w.heap.size w W) (q : Bool) (hq : q = (b && may e)) => (show BaI l w (.bool q) (.int .i64 ((k : Int) + 1)) W from ⟨k + 1, q, by rw [← hn'.out]; omega, by go_num, rfl, Lib.hid (by rw [take_all l k e he, hq, hb.out]), hW⟩))
        obtain ⟨ek, ea, eb, en, em, es⟩ := e
        unfold evV evC at M1
        simp only at M1 c0 c1 c2 c3 c4 c5
        generalize may ⟨ek, ea, eb, en, em, es⟩ = bm at *
        clear hV hV1 TX OK he hb
        cases b
        all_goals
          go_wp2_with (go_at_call 17; refine (M1.out _ hT1).mono ?_; rintro e w2 ⟨rfl, h1⟩; replace hg := hg.trans (h1.mono hg.size); clear h1)
          go_roundw
          case rel => exact NX.out _ hg _ (by simp)
          case measure => simp [intOf]; omega
      · obtain rfl : k = n := by omega
        have hall : b = l.all may := by rw [hb.out, List.take_of_length_le (by rw [← hn'.out]; exact Nat.le_refl _)]
        cases b with
        | false =>
          have hx : textP MK l = ([], 1) := by unfold textP; rw [if_neg (by rw [← hall]; decide)]
          have T1 := Lib.hid (TX.out wr hT1 hV1 (by rw [← hn'.out]; omega))
          rw [hx] at T1
          have hem : (str []).toList.isEmpty = true := by rw [str_toList]; rfl
          unfold IsTexted at T1
          simp only at T1
          rw [← hn'.out] at T1
          clear hall hx TX OK hV hV1 hb
          generalize str [] = S at *
          go_wp2_with (go_at_call 13; refine T1.out.mono ?_; rintro e w2 ⟨rfl, h1⟩; replace hg := hg.trans (h1.mono hg.size); clear h1)
          go_ret
          exact ⟨rfl, hg⟩
        | true =>
          have hmay : ∀ e ∈ l, may e = true := List.all_eq_true.1 hall.symm
          have hx : textP MK l = (linesT MK l, 0) := by unfold textP; rw [if_pos hall.symm, if_neg (by rw [← hn'.out]; omega)]
          have T1 := Lib.hid (TX.out wr hT1 hV1 (by rw [← hn'.out]; omega))
          rw [hx] at T1
          have hlen := lines_len l (fun e he => ⟨OK.out e he, hmay e he⟩)
          have P1 := Lib.hid (fun (w : World) (hT : Tab w) => parse_ (linesT MK l) (by rw [← hn'.out] at hlen; omega) w hT)
          rw [text_back good (fun e he => ⟨OK.out e he, hmay e he⟩) (by rw [← hn'.out]; omega)] at P1
          have SM := Lib.hid (fun (w : World) (b : Option Addr) (c2 : Nat) (h1 : Evs a l w) (h2 : Evs b l w) => same_ a b l cap c2 w h1 h2 (by rw [← hn'.out]; omega))
          unfold IsTexted at T1
          simp only at T1
          rw [← hn'.out] at T1 SM
          have HV := Lib.hid hV1
          clear hall hx TX OK hV hb hmay hlen hV1
          generalize linesT MK l = L at *
          generalize str L = S at *
          go_upto_region 14 with (first
            | (go_at_call 13; refine T1.out.mono ?_; rintro e w2 ⟨rfl, h1⟩; replace hg := hg.trans (h1.mono hg.size); replace HV := Lib.hid (HV.out.fresh h1); replace hT1 := hT1.fresh h1; clear h1)
            | (go_at_call 10; refine (P1.out _ hT1).mono ?_; rintro e w3 ⟨v, rfl, hO, h1⟩; replace hg := hg.trans (h1.mono hg.size); replace HV := Lib.hid (HV.out.fresh h1); clear h1))
          obtain ⟨va, vc, rfl⟩ := hO.shape
          have HO := Lib.hid hO.evs.1
          clear hO
          rw [← hn'.out]
          go_wp2_with (go_at_call 12; refine (SM.out _ _ _ HV.out HO.out).mono ?_; rintro e w4 ⟨rfl, h1⟩; replace hg := hg.trans (h1.mono hg.size); clear h1)
          go_ret
          exact ⟨rfl, hg⟩

theorem parse_none (l : List UInt8) (h : (parseP MK l).2.2 ≠ 0) : (parseP MK l).1 = [] := by
  rw [parse_lines] at h ⊢
  split
  · rfl
  · rename_i hc
    rw [if_neg hc] at h
    exact goP_bad _ _ _ _ _ h
set_option maxHeartbeats 4000000 in
theorem again_ (l : List UInt8) (w : World) (hT : Tab w) : Calls Tryd.prog 6 #[.string (str l)] w (IsYes w) := by
  have S0 := Lib.hid (fun (w : World) (hT : Tab w) => shown w hT)
  have hsz := str_size l
  by_cases hbig : 20000 < l.length
  · have hb' : (20000 : Int) < ((str l).size : Int) := by rw [hsz]; omega
    clear hsz
    generalize str l = S at *
    go_enter Tryd.func6, Tryd.ntmps6
    go_wp2_with (go_at_call 9; refine (S0.out _ hT).mono ?_; rintro e w1 ⟨rfl, hg⟩)
    go_ret
    exact ⟨rfl, hg⟩
  have hb' : ¬ (20000 : Int) < ((str l).size : Int) := by rw [hsz]; omega
  have P0 := Lib.hid (fun (w : World) (hT : Tab w) => parse_ l (by omega) w hT)
  have HS := Lib.hid hsz
  by_cases he : (parseP MK l).2.2 = 0
  · obtain ⟨A1, A2, A3⟩ := again good short' l he
    obtain ⟨⟨r1, r2, r3⟩, hr⟩ : ∃ r, r = parseP MK l := ⟨_, rfl⟩
    rw [← hr] at A1 A2 A3 he P0
    simp only at A1 A2 A3 he
    subst he
    have hr2 : r2 = 0 := by
      have h1 : (parseP MK l).2.2 = 0 := by rw [← hr]
      have h2 : (parseP MK l).2.1 = 0 := by
        rw [parse_lines] at h1 ⊢
        split
        · rfl
        · rename_i hc
          rw [if_neg hc] at h1
          exact goP_at _ _ _ _ _ h1
      rw [← hr] at h2
      exact h2
    subst hr2
    have hmay : ∀ e ∈ r1, may e = true := fun e he => (A1 e he).2
    have hok : ∀ e ∈ r1, e.Ok := fun e he => (A1 e he).1
    have hx : textP MK r1 = (linesT MK r1, 0) := by unfold textP; rw [if_pos (List.all_eq_true.2 hmay), if_neg (by omega)]
    have TX := Lib.hid (fun (w : World) (hT : Tab w) (a : Option Addr) (cap : Nat) (hV : Evs a r1 w) => text_ a r1 cap w hT hV hok (by omega))
    rw [hx] at TX
    have P1 := Lib.hid (fun (w : World) (hT : Tab w) => parse_ (linesT MK r1) (by omega) w hT)
    rw [text_back good A1 A2] at P1
    have SM := Lib.hid (fun (w : World) (a b : Option Addr) (c1 c2 : Nat) (h1 : Evs a r1 w) (h2 : Evs b r1 w) => same_ a b r1 c1 c2 w h1 h2 (by omega))
    have hLs := str_size (linesT MK r1)
    obtain ⟨n, hn⟩ : ∃ n, n = r1.length := ⟨_, rfl⟩
    have hn' := Lib.hid hn
    rw [← hn] at A2 A3
    unfold IsTexted at TX
    simp only at TX
    rw [← hn] at TX SM
    have HM := Lib.hid hmay
    clear hn A1 hok hmay hx hr
    rw [← hLs, ← hsz] at A3
    have HLS := Lib.hid hLs
    clear hLs hsz
    generalize linesT MK r1 = L at *
    generalize str L = S1 at *
    generalize str l = S at *
    have hle : (S1.size : Int) ≤ (S.size : Int) + 4 * (n : Int) := by omega
    have e4 : IntKind.i64.wrap (4 * (n : Int)) = 4 * (n : Int) := by rw [IntKind.wrap_i64]; omega
    go_enter Tryd.func6, Tryd.ntmps6
    go_upto_region 5 with (first
      | (go_at_call 9; refine (S0.out _ hT).mono ?_; rintro e w1 ⟨rfl, hg⟩; replace hT := hT.fresh hg)
      | (go_at_call 10; refine (P0.out _ hT).mono ?_; rintro e w2 ⟨v, rfl, hO, h1⟩; replace hg := hg.trans (h1.mono hg.size); replace hT := hT.fresh h1; clear h1))
    obtain ⟨va, vc, rfl⟩ := hO.shape
    have HV := Lib.hid hO.evs.1
    clear hO
    rw [← hn'.out]
    go_wp2_with fail
    go_loopw [7] (fun t wr => ∃ k : Nat, k ≤ n ∧ t = .int .i64 k ∧ Below w2.heap.size w2 wr) (fun t _ => n - (intOf t).toNat)
    case atStart => exact ⟨0, Nat.zero_le _, rfl, Below.refl _ _⟩
    case round =>
      obtain ⟨k, hk, rfl, h2⟩ := hrel
      have hT1 := hT.fresh h2
      have HV1 := Lib.hid (HV.out.fresh h2)
      replace hg := hg.trans (h2.mono hg.size)
      by_cases hlt : k < n
      · have hlt' : (k : Int) < n := by omega
        obtain ⟨e, he⟩ : ∃ e, r1[k]? = some e := ⟨_, List.getElem?_eq_getElem (by rw [← hn'.out]; exact hlt)⟩
        obtain ⟨bb, off, rfl, _, c0, c1, c2, c3, c4, c5⟩ := HV1.out k e he
        have M1 := Lib.hid (fun (w : World) (hT : Tab w) => may_ e w hT)
        rw [HM.out e (List.mem_of_getElem? he)] at M1
        obtain ⟨ek, ea, eb, en, em, es⟩ := e
        unfold evV evC at M1
        simp only at M1 c0 c1 c2 c3 c4 c5
        clear HV HV1 TX he HM
        go_wp2_with (go_at_call 17; refine (M1.out _ hT1).mono ?_; rintro e w4 ⟨rfl, h1⟩; replace h2 := h2.trans (h1.mono h2.size); clear h1)
        go_roundw
        case rel => exact ⟨k + 1, by omega, by go_num, h2⟩
        case measure => simp [intOf]; omega
      · obtain rfl : k = n := by omega
        clear HV HM hT hk hlt
        have TX1 := Lib.hid (TX.out _ hT1 va vc HV1.out)
        go_upto_region 14 with (first
          | (go_at_call 13; refine TX1.out.mono ?_; rintro e w5 ⟨rfl, h1⟩; replace hg := hg.trans (h1.mono hg.size); replace HV1 := Lib.hid (HV1.out.fresh h1); replace hT1 := hT1.fresh h1; clear h1)
          | (go_at_call 10; refine (P1.out _ hT1).mono ?_; rintro e w6 ⟨v, rfl, hO, h1⟩; replace hg := hg.trans (h1.mono hg.size); replace HV1 := Lib.hid (HV1.out.fresh h1); clear h1))
        obtain ⟨vb, vd, rfl⟩ := hO.shape
        have HO := Lib.hid hO.evs.1
        clear hO TX TX1
        rw [← hn'.out]
        go_wp2_with (go_at_call 12; refine (SM.out _ _ _ _ _ HV1.out HO.out).mono ?_; rintro e w7 ⟨rfl, h1⟩; replace hg := hg.trans (h1.mono hg.size); clear h1)
        go_ret
        exact ⟨rfl, hg⟩
  · have hnil := parse_none l he
    have he' : ((parseP MK l).2.2 != 0) = true := by simpa using he
    obtain ⟨⟨r1, r2, r3⟩, hr⟩ : ∃ r, r = parseP MK l := ⟨_, rfl⟩
    rw [← hr] at hnil he' P0
    simp only at hnil he'
    subst hnil
    clear hsz HS he hr
    generalize str l = S at *
    go_enter Tryd.func6, Tryd.ntmps6
    go_upto_region 5 with (first
      | (go_at_call 9; refine (S0.out _ hT).mono ?_; rintro e w1 ⟨rfl, hg⟩; replace hT := hT.fresh hg)
      | (go_at_call 10; refine (P0.out _ hT).mono ?_; rintro e w2 ⟨v, rfl, hO, h1⟩; replace hg := hg.trans (h1.mono hg.size); replace hT := hT.fresh h1; clear h1))
    obtain ⟨va, vc, rfl⟩ := hO.shape
    clear hO
    rw [show ([] : List Ev).length = 0 from rfl]
    go_wp2_with fail
    go_ret
    exact ⟨rfl, hg⟩
end Go.Proofs.YtikdhfedidknpaaDoor.Event
