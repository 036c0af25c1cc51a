/- What event's line and Text make of events. Conditions: the listed variables hold what they are listed with; the events' numbers are of their kinds. -/
import Derived.Test.YtikdhfedidknpaaDoorEventMay
import Derived.Test.YtikdhfedidknpaaDoorEventParse
import Derived.Laws.Concat
namespace Go.Proofs.YtikdhfedidknpaaDoor.Event
open Go.ChangeShapes Go.WideShapes Go.ChangeAt Go.RowKit
open Mem (box_fresh owns_fresh)
set_option linter.unusedVariables false
set_option linter.unusedSimpArgs false
set_option maxRecDepth 100000

theorem str_append (a b : List UInt8) : str a ++ str b = str (a ++ b) := by
  unfold str
  apply ByteArray.ext
  simp
theorem str_add (a b : List UInt8) (h : a.length + b.length ≤ 9223372036854775807) (w : World) : (Op.stringOp .add (str a) (str b)).run Tryd.prog w = .ok (.string (str (a ++ b))) w := by
  rw [run_string_add_sum w _ _ (by rw [str_size, str_size]; exact h), str_append]
theorem figT_len (f : UInt8) (z : Int) (h : I64 z ∨ f = 83) : (figT f z).length ≤ 384 := by
  unfold figT
  split
  · rename_i hf
    have hz : I64 z := by
      rcases h with h | h
      · exact h
      · subst h
        exact absurd hf (by decide)
    have := Lib.itoa_length_le z hz.1 hz.2
    unfold figs
    omega
  · split
    · decide
    · exact text_len _
theorem fieldT_fig (e : Ev) (f : UInt8) (hf : Fl f) : fieldT MK e f = figT (up f) (getF e (up f)) := by
  rcases hf with rfl | rfl | rfl | rfl | rfl
  · rfl
  · rfl
  · rfl
  · rfl
  · show (if e.s = 0 then noneT else []) ++ MK.t e.s = if (e.s : Int) = 0 then noneT else MK.t (e.s : Int).toNat
    by_cases h : e.s = 0
    · rw [if_pos h, if_pos (by omega), h, good.zero, List.append_nil]
    · rw [if_neg h, if_neg (by omega)]; rfl
/-- A line's rest, field by field. -/
def lineF (e : Ev) : List UInt8 → List UInt8 → List UInt8
  | out, [] => out
  | out, f :: fs => lineF e (out ++ 32 :: figT f (getF e f)) fs
theorem lineF_eq (e : Ev) : ∀ (fs out : List UInt8), (∀ f ∈ fs, Fl f) → lineF e out (fs.map up) = fs.foldl (fun out f => out ++ 32 :: fieldT MK e f) out
  | [], out, _ => rfl
  | f :: fs, out, h => by
    rw [List.map_cons, List.foldl_cons, fieldT_fig e f (h f (by simp))]
    exact lineF_eq e fs _ (fun x hx => h x (by simp [hx]))
theorem line_plain (e : Ev) (j : Nat) (h : e.k = (j : Int) + 1) : lineT MK e = lineF e (wordL j) (formU e.k) := by
  unfold lineT formU
  rw [lineF_eq e _ _ (form_ok e.k).1, h]
  congr 1
  unfold wordOf wordL
  rw [show ((j : Int) + 1 - 1).toNat = j by omega, List.getD_eq_getElem?_getD]
theorem word_len (j : Nat) : (wordL j).length ≤ 6 := by
  unfold wordL
  by_cases h : j < 15
  · have key : ∀ j : Fin 15, (words.getD j.val []).length ≤ 6 := by decide
    exact key ⟨j, h⟩
  · rw [List.getD_eq_getElem?_getD, List.getElem?_eq_none (by simpa [words] using h)]; simp
theorem Ev.Ok.fits {e : Ev} (h : e.Ok) (f : UInt8) (hf : Fu f) : Fits f (getF e f) := by
  rcases hf with rfl | rfl | rfl | rfl | rfl
  · exact h.a
  · exact h.b
  · exact h.n
  · exact h.m
  · show 0 ≤ (e.s : Int) ∧ (e.s : Int) < 18446744073709551616
    have := h.s
    omega
theorem fits_len {f : UInt8} {z : Int} (hf : Fu f) (h : Fits f z) : (figT f z).length ≤ 384 := by
  refine figT_len f z ?_
  rcases hf with rfl | rfl | rfl | rfl | rfl
  · exact .inl h
  · exact .inl h
  · exact .inl h
  · exact .inl h
  · exact .inr rfl
def LiI (e : Ev) (fs : List UInt8) (T : List UInt8) (ib : Nat) (w : World) (v : Value) (wr : World) : Prop :=
  ∃ (pos : Nat) (out : List UInt8), v = .string (str out) ∧ pos ≤ fs.length ∧ out.length ≤ 6 + 385 * pos ∧ EvB wr w.heap.size e ∧ ItB wr ib (str fs) pos ∧ Below w.heap.size w wr ∧ Hid (lineF e out (fs.drop pos) = T)

set_option maxHeartbeats 4000000 in
theorem line_ (e : Ev) (he : e.Ok) (h1 : 1 ≤ e.k) (h2 : e.k ≤ 15) (w : World) (hT : Tab w) : Calls Tryd.prog 24 #[evV e] w (IsV (.string (str (lineT MK e ++ [10]))) w) := by
  obtain ⟨j, hj⟩ : ∃ j : Nat, e.k = (j : Int) + 1 := ⟨(e.k - 1).toNat, by omega⟩
  have hj15 : j < 15 := by omega
  rw [line_plain e j hj]
  have hg := Mem.alloc1 w (.cells (evC e) 33)
  have hE := new_ev w e
  obtain ⟨hfu, hlen⟩ := form_letters e.k
  have FF := Lib.hid (fun (w : World) (f : UInt8) (hf : Fu f) => field_ e f hf w)
  have F := Lib.hid (fun (w : World) (hT : Tab w) => fields_ e.k h1 h2 w hT)
  have GG := Lib.hid (fun (w : World) (hT : Tab w) (f : UInt8) (hf : Fu f) => figures f hf (getF e f) (he.fits f hf) w hT)
  have GL := Lib.hid (fun (f : UInt8) (hf : Fu f) => fits_len hf (he.fits f hf))
  have hT1 := hT.fresh hg
  have hc := hT1.kinds (2 * j) (by omega)
  rw [kind_word j hj15, Nat.mul_comm 2 j] at hc
  have wl := word_len j
  obtain ⟨T, hT0⟩ : ∃ T, T = lineF e (wordL j) (formU e.k) := ⟨_, rfl⟩
  rw [← hT0]
  have hTd := Lib.hid hT0
  clear hT0
  generalize wordL j = wd at *
  obtain ⟨k, a, b, n, m, s⟩ := e
  have e0 : (j : Int) + 1 - 1 = (j : Int) := by omega
  have e1 : (j : Int) < 15 := by omega
  simp only at *
  subst hj
  clear h1 h2 hj15 he
  generalize hfs : formU ((j : Int) + 1) = fs at *
  clear hfs
  unfold evV evC at *
  simp only at hg hT1 hc FF
  go_enter Tryd.func24, Tryd.ntmps24
  go_upto_region 2 with fail
  generalize w.alloc _ = W4 at *
  have st : Hid (LiI ⟨(j : Int) + 1, a, b, n, m, s⟩ fs T W4.heap.size w (.string (str wd)) (W4.iter (str fs) 0)) := by
    have hb : Below W4.heap.size W4 (W4.iter (str fs) 0) := (Below.refl _ W4).alloc (Nat.le_refl _) _
    refine Lib.hid ⟨0, wd, rfl, Nat.zero_le _, by omega, hE.fresh hb, ?_, hg.trans (hb.mono hg.size), Lib.hid ?_⟩
    · show (W4.heap.push _)[W4.heap.size]? = _
      rw [Array.getElem?_push, if_pos rfl]
    · rw [hTd.out]; rfl
  have hei := hE.lt
  obtain ⟨y0, y1, y2, y3, y4, y5, yz⟩ := EvB.six hE; simp only at y0 y1 y2 y3 y4 y5
  obtain ⟨ib, hib⟩ : ∃ ib, ib = W4.heap.size := ⟨_, rfl⟩
  have hib' := Lib.hid hib
  clear hib
  go_wp2_with (go_at_call 26; refine (F.out _ hT1).mono ?_; rintro e w5 ⟨rfl, hw⟩; replace hw := hw.symm; subst hw)
  rw [← hib'.out] at st hei ⊢
  clear hib' hE hg y0 y1 y2 y3 y4 y5 yz F hTd e0 e1 hc hT1 wl
  generalize W4.iter (str fs) 0 = W5 at *
  generalize (j : Int) + 1 = k at *
  go_loopw [3] (fun v wr => LiI ⟨k, a, b, n, m, s⟩ fs T ib w v wr) (fun _ wr => (str fs).size - wr.iterPos ib)
  case atStart => exact st.out
  case round =>
    clear st
    obtain ⟨pos, out, rfl, hp, hol, hE, hI, hg, hgo⟩ := hrel
    by_cases hlt' : pos < (str fs).size
    · obtain ⟨f, hf, hdec, hdrop⟩ := letter_at fs hfu pos hlt'
      have hnx : ∀ ty, (Instr.next (.pointer (some ⟨ib, 0, none⟩)) true ty).run Tryd.prog wr = _ := fun ty => Lib.run_next_any_at wr ib (str fs) pos ty hI hlt'
      rw [hdec] at hnx
      simp only at hnx
      have hE1 : EvB (wr.iterAt ib (str fs) (pos + 1)) w.heap.size ⟨k, a, b, n, m, s⟩ := by unfold EvB; rw [Lib.iterAt_other _ _ _ _ _ (by omega)]; exact hE
      have hI1 : ItB (wr.iterAt ib (str fs) (pos + 1)) ib (str fs) (pos + 1) := Lib.iterAt_heap _ _ _ _ _ hI
      have hg1 : Below w.heap.size w (wr.iterAt ib (str fs) (pos + 1)) := Lib.below_iterAt hg (by omega) _ _
      have hI0 := Lib.hid hI
      generalize wr.iterAt ib (str fs) (pos + 1) = W1 at *
      clear hE hI hg
      have hT1 := hT.fresh hg1
      have hgo' := Lib.hid (show lineF ⟨k, a, b, n, m, s⟩ (out ++ 32 :: figT f (getF ⟨k, a, b, n, m, s⟩ f)) (fs.drop (pos + 1)) = T by
        have := hgo.out
        rw [hdrop] at this
        exact this)
      have hpl : pos + 1 ≤ fs.length := by rw [str_size] at hlt'; omega
      have FW := Lib.hid (fun (w : World) => FF.out w f hf)
      have GW := Lib.hid (fun (w : World) (hT : Tab w) => GG.out w hT f hf)
      have gl := GL.out f hf
      have q1 : ∀ w, (Op.stringOp .add ⟨#[32]⟩ (str (figT f (getF ⟨k, a, b, n, m, s⟩ f)))).run Tryd.prog w = .ok (.string (str (32 :: figT f (getF ⟨k, a, b, n, m, s⟩ f)))) w := fun w => str_add [32] _ (by simp; omega) w
      have hpos3 : out.length ≤ 2000 := by omega
      have q2 : ∀ w, (Op.stringOp .add (str out) (str (32 :: figT f (getF ⟨k, a, b, n, m, s⟩ f)))).run Tryd.prog w = .ok (.string (str (out ++ 32 :: figT f (getF ⟨k, a, b, n, m, s⟩ f)))) w := fun w => str_add _ _ (by simp; omega) w
      have hol2 : (out ++ 32 :: figT f (getF ⟨k, a, b, n, m, s⟩ f)).length ≤ 6 + 385 * (pos + 1) := by simp; omega
      generalize out ++ 32 :: figT f (getF ⟨k, a, b, n, m, s⟩ f) = out2 at *
      generalize str (32 :: figT f (getF ⟨k, a, b, n, m, s⟩ f)) = s2 at *
      generalize str (figT f (getF ⟨k, a, b, n, m, s⟩ f)) = s1 at *
      generalize fvOf f (getF ⟨k, a, b, n, m, s⟩ f) = FX at *
      generalize str out = so at *
      clear hgo hdec hdrop hfu FF GG GL hf gl
      have hg := hg1
      have hE := hE1
      have hI := hI1
      clear hg1 hE1 hI1
      obtain ⟨y0, y1, y2, y3, y4, y5, yz⟩ := EvB.six hE; simp only at y0 y1 y2 y3 y4 y5
      go_wp2_with (first
        | (go_at_call 28; refine (FW.out _).mono ?_; rintro e w1 ⟨rfl, h1⟩; replace hg := hg.trans (h1.mono hg.size); replace hE := EvB.fresh hE h1; replace hI := ItB.fresh hI h1; replace hT1 := hT1.fresh h1; clear h1)
        | (go_at_call 37; refine (GW.out _ hT1).mono ?_; rintro e w2 ⟨rfl, h1⟩; replace hg := hg.trans (h1.mono hg.size); replace hE := EvB.fresh hE h1; replace hI := ItB.fresh hI h1; replace hT1 := hT1.fresh h1; clear h1))
      go_roundw
      case rel => exact ⟨pos + 1, out2, rfl, hpl, hol2, hE, hI, hg, hgo'⟩
      case measure =>
        have hI2 := hI
        unfold ItB at hI2
        simp only [World.iterPos, hI2]
        rw [show wr.heap[ib]? = some (.stringIter (str fs) pos) from hI0.out]
        simp only
        omega
    · have hnx : ∀ ty, (Instr.next (.pointer (some ⟨ib, 0, none⟩)) true ty).run Tryd.prog wr = _ := fun ty => Lib.run_next_end_at wr ib (str fs) pos ty hI hlt'
      have hge : out = T := by
        have := hgo.out
        rw [List.drop_eq_nil_of_le (by rw [str_size] at hlt'; omega)] at this
        exact this
      subst hge
      have q1 : ∀ w, (Op.stringOp .add (str out) ⟨#[10]⟩).run Tryd.prog w = .ok (.string (str (out ++ [10]))) w := fun w => str_add out [10] (by simp; omega) w
      have hg' := Lib.hid hg
      generalize str (out ++ [10]) = s2 at *
      generalize str out = s1 at *
      clear hgo hE hI hg hfu FF GG GL hol
      go_wp2_with fail
      go_ret
      exact ⟨rfl, hg'.out⟩
end Go.Proofs.YtikdhfedidknpaaDoor.Event
