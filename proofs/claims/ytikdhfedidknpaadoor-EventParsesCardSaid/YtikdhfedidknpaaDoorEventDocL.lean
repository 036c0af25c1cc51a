/- What the document's Words and line tell. Conditions: the event's numbers are of their kinds. -/
import Derived.Test.YtikdhfedidknpaaDoorEventDocF
import Derived.Deep.RegionHeld3
namespace Go.Proofs.YtikdhfedidknpaaDoor.Event
open Go.ChangeShapes Go.WideShapes Go.ChangeAt Go.RowKit
open Mem (box_fresh owns_fresh)
set_option linter.unusedVariables false
set_option linter.unusedSimpArgs false
set_option maxRecDepth 100000

def wordsV : List Value := words.map fun l => .string (str l)
/-- The document's words, in a block. -/
def Wds (g : Nat) (w : World) : Prop := w.heap[g]? = some (.cells wordsV.toArray 9 (0, 0))
theorem Wds.fresh {g : Nat} {w w' : World} (h : Wds g w) (hb : Below w.heap.size w w') : Wds g w' := box_fresh h hb
theorem Wds.at {g : Nat} {w : World} (h : Wds g w) (j : Nat) (hj : j < 15) : w.cell? ⟨g, j, none⟩ = some (.string (str (wordL j))) := by
  rw [cell_of_row w g j _ _ _ h]
  unfold wordsV
  simp only [List.getElem?_toArray, List.getElem?_map]
  have hl : j < words.length := hj
  rw [List.getElem?_eq_getElem hl]
  unfold wordL
  rw [List.getD_eq_getElem?_getD, List.getElem?_eq_getElem hl]
  rfl
def IsWords (w : World) (e : Ending) (w' : World) : Prop := ∃ g, e = .returned (.slice (some ⟨g, 0, none⟩) 15 15) ∧ w.heap.size ≤ g ∧ Wds g w' ∧ Below w.heap.size w w'
theorem docWords (w : World) : Calls Tryd.prog 16 #[] w (IsWords w) := by
  have h1 := heap_alloc_new w (.cells wordsV.toArray 9)
  have h2 := Mem.alloc1 w (.cells wordsV.toArray 9)
  have H : Hid (IsWords w (.returned (.slice (some ⟨w.heap.size, 0, none⟩) 15 15)) (w.alloc (.cells wordsV.toArray 9))) := Lib.hid ⟨_, rfl, Nat.le_refl _, h1, h2⟩
  clear h1 h2
  go_enter Tryd.func16, Tryd.ntmps16
  go_wp2
  go_ret
  exact H.out
def DlI (e : Ev) (T : List UInt8) (b : Nat) (w : World) (v t : Value) (wr : World) : Prop :=
  ∃ (i : Nat) (out : List UInt8), v = .string (str out) ∧ t = .int .i64 i ∧ i ≤ (form e.k).length ∧ out.length ≤ 6 + 385 * i ∧ EvB wr b e ∧ Below w.heap.size w wr ∧ Hid (((form e.k).drop i).foldl (fun out f => out ++ 32 :: fieldT MK e f) out = T)
theorem fieldT_len (e : Ev) (he : e.Ok) (f : UInt8) (hf : Fl f) : (fieldT MK e f).length ≤ 384 := by
  rw [fieldT_fig e f hf]
  have hu : Fu (up f) := by rcases hf with rfl | rfl | rfl | rfl | rfl <;> decide
  exact fits_len hu (he.fits _ hu)
set_option maxHeartbeats 4000000 in
theorem docLine (e : Ev) (he : e.Ok) (h1 : 1 ≤ e.k) (h2 : e.k ≤ 15) (w : World) : Calls Tryd.prog 25 #[evV e] w (IsV (.string (str (lineT MK e))) w) := by
  obtain ⟨j, hj⟩ : ∃ j : Nat, e.k = (j : Int) + 1 := ⟨(e.k - 1).toNat, by omega⟩
  have hj15 : j < 15 := by omega
  have hg := Mem.alloc1 w (.cells (evC e) 33)
  have hE := new_ev w e
  have WO := Lib.hid (fun (w : World) => docWords w)
  have FO := Lib.hid (fun (w : World) => form_ e.k w)
  have wl := word_len j
  obtain ⟨T, hT0⟩ : ∃ T, T = lineT MK e := ⟨_, rfl⟩
  rw [← hT0]
  have hTd : Hid ((form e.k).foldl (fun out f => out ++ 32 :: fieldT MK e f) (wordL j) = T) := Lib.hid (by
    rw [hT0]
    unfold lineT
    congr 1
    unfold wordOf wordL
    rw [hj, show ((j : Int) + 1 - 1).toNat = j by omega, List.getD_eq_getElem?_getD])
  clear hT0
  have mixed : Tryd.prog.follows Departure.mixedOrders = true := by kernel_rfl
  have HE := Lib.hid he
  obtain ⟨k, a, b, n, m, s⟩ := e
  simp only at hj h1 h2 FO
  have e0' : IntKind.i64.wrap (k - 1) = (j : Int) := by rw [IntKind.wrap_i64]; omega
  have e1 : (j : Int) < 15 := by omega
  have e2 : (0 : Int) ≤ (j : Int) := by omega
  clear hj he
  have HW := Lib.hid (fun (g : Nat) (w : World) (h : Wds g w) => h.at j hj15)
  unfold evV evC at *
  simp only at hg
  go_enter Tryd.func25, Tryd.ntmps25
  go_upto_region 1 with fail
  generalize w.alloc _ = W at *
  have hlt := hE.lt
  obtain ⟨y0, y1, y2, y3, y4, y5, yz⟩ := EvB.six hE
  simp only at y0 y1 y2 y3 y4 y5
  have hgd : Below w.heap.size w W.drew := hg.trans ⟨rfl, rfl, rfl, Nat.le_refl _, fun _ _ => rfl⟩
  have hEd : EvB W.drew w.heap.size ⟨k, a, b, n, m, s⟩ := hE
  clear hE hg y1 y2 y3 y4 y5 yz
  have y0d : W.drew.cell? ⟨w.heap.size, 0, none⟩ = some (.int .i64 k) := y0
  go_region_with (go_at_call 16; refine (WO.out _).mono ?_; rintro e w2 ⟨g, rfl, hgg, hW, hh⟩; have z0 := (EvB.six (EvB.fresh hEd hh)).1; simp only at z0; have cw := HW.out g w2 hW)
  all_goals
    have hE2 := EvB.fresh hEd hh
    have hg2 := hgd.trans (hh.mono hgd.size)
    have z0' : w2.cell? ⟨w.heap.size, 0, none⟩ = some (.int .i64 k) := z0
    have hfl := form_short k
    obtain ⟨hff, _, _⟩ := form_ok k
    have hfs := Lib.hid (str_size (form k))
    have hfd := Lib.hid (str_list (form k))
    unfold IsS at FO
    have st : Hid (DlI ⟨k, a, b, n, m, s⟩ T w.heap.size w (.string (str (wordL j))) (.int .i64 0) w2) := Lib.hid ⟨0, wordL j, rfl, rfl, Nat.zero_le _, by omega, hE2, hg2, hTd⟩
    clear hE2 hg2 hh cw hW y0 y0d hEd hgd e0' e1 e2 wl hTd WO HW
    have hfl2 := hfs.out
    generalize str (form k) = F at *
    go_wp2_with (go_at_call 29; refine (FO.out _).mono ?_; rintro e w5 ⟨rfl, hw⟩; replace hw := hw.symm; subst hw)
    clear z0 z0'
    go_loopw [3, 5] (fun v t wr => DlI ⟨k, a, b, n, m, s⟩ T w.heap.size w v t wr) (fun _ t _ => F.size - (intOf t).toNat)
    case atStart => exact st.out
    case round =>
      clear st
      obtain ⟨i, out, rfl, rfl, hi, hol, hE, hg, hgo⟩ := hrel
      simp only at hi
      by_cases hlt2 : i < F.size
      · have hlt' : (i : Int) < (F.size : Int) := by omega
        obtain ⟨f, hf⟩ : ∃ f, F[i] = f := ⟨_, rfl⟩
        have hat : (form k)[i]? = some f := by rw [← hfd.out, Mask.data_at F i hlt2, hf]
        have hfl3 := hff f (List.mem_of_getElem? hat)
        have ftl := fieldT_len ⟨k, a, b, n, m, s⟩ HE.out f hfl3
        have NX : Hid (∀ W, EvB W w.heap.size ⟨k, a, b, n, m, s⟩ → Below w.heap.size w W → DlI ⟨k, a, b, n, m, s⟩ T w.heap.size w (.string (str (out ++ 32 :: fieldT MK ⟨k, a, b, n, m, s⟩ f))) (.int .i64 ((i : Int) + 1)) W) := Lib.hid (fun W h1 h2 => ⟨i + 1, _, rfl, by go_num, by show i + 1 ≤ (form k).length; omega, by simp only [List.length_append, List.length_cons]; omega, h1, h2, Lib.hid (by
          have hd : (form k).drop i = f :: (form k).drop (i + 1) := by
            rw [List.drop_eq_getElem_cons (show i < (form k).length by omega)]
            congr 1
            exact (List.getElem?_eq_some_iff.1 hat).2
          have := hgo.out
          simp only at this
          rw [hd, List.foldl_cons] at this
          exact this)⟩)
        have q1 : ∀ w, (Op.stringOp .add (str out) ⟨#[32]⟩).run Tryd.prog w = .ok (.string (str (out ++ [32]))) w := fun w => str_add out [32] (by simp only [List.length_singleton]; omega) w
        have q2 : ∀ w, (Op.stringOp .add (str (out ++ [32])) (str (fieldT MK ⟨k, a, b, n, m, s⟩ f))).run Tryd.prog w = .ok (.string (str (out ++ 32 :: fieldT MK ⟨k, a, b, n, m, s⟩ f))) w := fun w => by
          have := str_add (out ++ [32]) (fieldT MK ⟨k, a, b, n, m, s⟩ f) (by simp only [List.length_append, List.length_singleton]; omega) w
          rw [this]; simp
        have hE3 := hE
        have hg3 := hg
        obtain ⟨y0, y1, y2, y3, y4, y5, yz⟩ := EvB.six hE
        simp only at y0 y1 y2 y3 y4 y5
        have hol2 : out.length ≤ 2000 := by omega
        clear hE hg hgo hat hol ftl
        have HEo := HE.out
        rcases hfl3 with rfl | rfl | rfl | rfl | rfl
        · have DF := Lib.hid (fun (w : World) => docFigs a HEo.a w)
          have ft : fieldT MK ⟨k, a, b, n, m, s⟩ 97 = figs a := rfl
          rw [ft] at q2 NX
          clear HEo
          generalize str (out ++ 32 :: figs a) = s3 at *
          generalize str (figs a) = s2 at *
          generalize str (out ++ [32]) = s1 at *
          generalize str out = so at *
          go_wp2_with (go_at_call 38; (with_reducible refine (DF.out _).mono ?_); rintro e w3 ⟨rfl, hq⟩; replace hg3 := hg3.trans (hq.mono hg3.size); replace hE3 := EvB.fresh hE3 hq; clear hq)
          go_roundw
          case rel => exact NX.out _ hE3 hg3
          case measure => simp [intOf]; omega
        · have DF := Lib.hid (fun (w : World) => docFigs b HEo.b w)
          have ft : fieldT MK ⟨k, a, b, n, m, s⟩ 98 = figs b := rfl
          rw [ft] at q2 NX
          clear HEo
          generalize str (out ++ 32 :: figs b) = s3 at *
          generalize str (figs b) = s2 at *
          generalize str (out ++ [32]) = s1 at *
          generalize str out = so at *
          go_wp2_with (go_at_call 38; (with_reducible refine (DF.out _).mono ?_); rintro e w3 ⟨rfl, hq⟩; replace hg3 := hg3.trans (hq.mono hg3.size); replace hE3 := EvB.fresh hE3 hq; clear hq)
          go_roundw
          case rel => exact NX.out _ hE3 hg3
          case measure => simp [intOf]; omega
        · have DF := Lib.hid (fun (w : World) => docFigs n HEo.n w)
          have ft : fieldT MK ⟨k, a, b, n, m, s⟩ 110 = figs n := rfl
          rw [ft] at q2 NX
          clear HEo
          generalize str (out ++ 32 :: figs n) = s3 at *
          generalize str (figs n) = s2 at *
          generalize str (out ++ [32]) = s1 at *
          generalize str out = so at *
          go_wp2_with (go_at_call 38; (with_reducible refine (DF.out _).mono ?_); rintro e w3 ⟨rfl, hq⟩; replace hg3 := hg3.trans (hq.mono hg3.size); replace hE3 := EvB.fresh hE3 hq; clear hq)
          go_roundw
          case rel => exact NX.out _ hE3 hg3
          case measure => simp [intOf]; omega
        · have DF := Lib.hid (fun (w : World) => docFigs m HEo.m w)
          have ft : fieldT MK ⟨k, a, b, n, m, s⟩ 109 = figs m := rfl
          rw [ft] at q2 NX
          clear HEo
          generalize str (out ++ 32 :: figs m) = s3 at *
          generalize str (figs m) = s2 at *
          generalize str (out ++ [32]) = s1 at *
          generalize str out = so at *
          go_wp2_with (go_at_call 38; (with_reducible refine (DF.out _).mono ?_); rintro e w3 ⟨rfl, hq⟩; replace hg3 := hg3.trans (hq.mono hg3.size); replace hE3 := EvB.fresh hE3 hq; clear hq)
          go_roundw
          case rel => exact NX.out _ hE3 hg3
          case measure => simp [intOf]; omega
        · have hs64 := HEo.s
          simp only at hs64
          have DT := Lib.hid (fun (w : World) => Mask.docText s hs64 w)
          have tl := text_len s
          by_cases hs0 : s = 0
          · have ft : fieldT MK ⟨k, a, b, n, m, s⟩ 115 = noneT ++ Mask.text s := by
              show (if s = 0 then noneT else []) ++ MK.t s = _
              rw [if_pos hs0]; rfl
            rw [ft] at NX
            have hs0' : ((s : Int) == 0) = true := by simpa using hs0
            have q3 : ∀ w, (Op.stringOp .add (str (out ++ [32])) ⟨#[110, 111, 110, 101]⟩).run Tryd.prog w = .ok (.string (str (out ++ [32] ++ noneT))) w := fun w => str_add (out ++ [32]) noneT (by simp only [List.length_append, List.length_singleton]; simp; omega) w
            have q4 : ∀ w, (Op.stringOp .add (str (out ++ [32] ++ noneT)) (str (Mask.text s))).run Tryd.prog w = .ok (.string (str (out ++ 32 :: (noneT ++ Mask.text s)))) w := fun w => by
              have := str_add (out ++ [32] ++ noneT) (Mask.text s) (by simp only [List.length_append, List.length_singleton]; simp; omega) w
              rw [this]; simp
            have DT2 : Hid (∀ w, Calls Tryd.prog 39 #[.int .u64 (s : Int)] w (IsV (.string (str (Mask.text s))) w)) := DT
            clear HEo q2 hs0 tl ft hs64 DT
            generalize str (out ++ 32 :: (noneT ++ Mask.text s)) = s4 at *
            generalize str (out ++ [32] ++ noneT) = s3 at *
            generalize str (Mask.text s) = s2 at *
            generalize str (out ++ [32]) = s1 at *
            generalize str out = so at *
            go_wp2_with (go_at_call 39; (with_reducible refine (DT2.out _).mono ?_); rintro e w3 ⟨rfl, hq⟩; replace hg3 := hg3.trans (hq.mono hg3.size); replace hE3 := EvB.fresh hE3 hq; clear hq)
            go_roundw
            case rel => exact NX.out _ hE3 hg3
            case measure => simp [intOf]; omega
          · have ft : fieldT MK ⟨k, a, b, n, m, s⟩ 115 = Mask.text s := by
              show (if s = 0 then noneT else []) ++ MK.t s = _
              rw [if_neg hs0]; rfl
            rw [ft] at NX q2
            have hs0' : ((s : Int) == 0) = false := by simpa using hs0
            have DT2 : Hid (∀ w, Calls Tryd.prog 39 #[.int .u64 (s : Int)] w (IsV (.string (str (Mask.text s))) w)) := DT
            clear HEo hs0 tl ft hs64 DT
            generalize str (out ++ 32 :: Mask.text s) = s4 at *
            generalize str (Mask.text s) = s2 at *
            generalize str (out ++ [32]) = s1 at *
            generalize str out = so at *
            go_wp2_with (go_at_call 39; (with_reducible refine (DT2.out _).mono ?_); rintro e w3 ⟨rfl, hq⟩; replace hg3 := hg3.trans (hq.mono hg3.size); replace hE3 := EvB.fresh hE3 hq; clear hq)
            go_roundw
            case rel => exact NX.out _ hE3 hg3
            case measure => simp [intOf]; omega
      · have hge : Hid (out = T) := Lib.hid (by
          have := hgo.out
          simp only at this
          rw [List.drop_eq_nil_of_le (by omega)] at this
          exact this)
        have hg' := Lib.hid hg
        clear hgo hE hg hol
        go_wp2_with fail
        go_ret
        exact ⟨by rw [← hge.out]; rfl, hg'.out⟩
end Go.Proofs.YtikdhfedidknpaaDoor.Event
