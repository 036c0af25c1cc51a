/- What event.Text makes of any events. Conditions: the listed variables hold what they are listed with; the events' numbers are of their kinds; there are at most 2^30. -/
import Derived.Test.YtikdhfedidknpaaDoorEventText
namespace Go.Proofs.YtikdhfedidknpaaDoor.Event
open Go.ChangeShapes Go.WideShapes Go.ChangeAt Go.RowKit
open Mem (box_fresh owns_fresh)
set_option linter.unusedVariables false
set_option linter.unusedSimpArgs false
set_option maxRecDepth 100000

/-- Events in memory. -/
def Evs (a : Option Addr) (l : List Ev) (w : World) : Prop := ∀ j e, l[j]? = some e → ∃ b off, a = some ⟨b, off, none⟩ ∧ b < w.heap.size ∧ w.cell? ⟨b, off + j * 6, none⟩ = some (.int .i64 e.k) ∧ w.cell? ⟨b, off + j * 6 + 1, none⟩ = some (.int .i64 e.a) ∧ w.cell? ⟨b, off + j * 6 + 2, none⟩ = some (.int .i64 e.b) ∧ w.cell? ⟨b, off + j * 6 + 3, none⟩ = some (.int .i64 e.n) ∧ w.cell? ⟨b, off + j * 6 + 4, none⟩ = some (.int .i64 e.m) ∧ w.cell? ⟨b, off + j * 6 + 5, none⟩ = some (.int .u64 (e.s : Int))
theorem Evs.fresh {a : Option Addr} {l : List Ev} {w w' : World} (h : Evs a l w) (hb : Below w.heap.size w w') : Evs a l w' := by
  intro j e he
  obtain ⟨b, off, e1, e2, c0, c1, c2, c3, c4, c5⟩ := h j e he
  have key : ∀ i, w'.cell? ⟨b, i, none⟩ = w.cell? ⟨b, i, none⟩ := fun i => hb.cell (p := ⟨b, i, none⟩) e2
  exact ⟨b, off, e1, Nat.lt_of_lt_of_le e2 hb.size, by rw [key]; exact c0, by rw [key]; exact c1, by rw [key]; exact c2, by rw [key]; exact c3, by rw [key]; exact c4, by rw [key]; exact c5⟩
theorem evsC_len (l : List Ev) : (evsC l).length = l.length * 6 := by
  induction l with
  | nil => rfl
  | cons e l ih => unfold evsC at ih ⊢; rw [List.flatMap_cons, List.length_append, ih]; simp [evC]; omega
theorem evsC_at (l : List Ev) (j : Nat) (e : Ev) (h : l[j]? = some e) (i : Nat) (hi : i < 6) : (evsC l)[j * 6 + i]? = (evC e).toList[i]? := by
  induction l generalizing j with
  | nil => simp at h
  | cons x l ih =>
    have hx : (evC x).toList.length = 6 := rfl
    have hu : evsC (x :: l) = (evC x).toList ++ evsC l := by unfold evsC; rw [List.flatMap_cons]
    rw [hu]
    cases j with
    | zero =>
      simp only [List.getElem?_cons_zero, Option.some.injEq] at h
      subst h
      rw [List.getElem?_append_left (by omega)]
      simp
    | succ j =>
      rw [List.getElem?_cons_succ] at h
      rw [List.getElem?_append_right (by omega), ← ih j h]
      congr 1
      omega
theorem Own.evs {B : Nat} {a : Option Addr} {n c : Nat} {l : List Ev} {w : World} (h : Own B (.slice a n c) l w) : Evs a l w ∧ n = l.length := by
  have hn : n = l.length := by
    obtain ⟨_, _, e⟩ := h.shape
    cases e; rfl
  refine ⟨?_, hn⟩
  intro j e he
  have hj := (List.getElem?_eq_some_iff.1 he).1
  rcases h.2 with ⟨e1, e2⟩ | ⟨g, cap, cur, e1, h0, hg, h1⟩
  · have h3 : l.length = 0 := e2
    omega
  · cases e1
    have h' : w.ownsRow B 33 6 (.slice (some ⟨g, 0, none⟩) l.length c) l.length (evsC l) := h
    have A : ∀ i, i < 6 → w.cell? ⟨g, j * 6 + i, none⟩ = (evC e).toList[i]? := fun i hi => by
      rw [h'.cellAt _ (by omega), evsC_at l j e he i hi]
    exact ⟨g, 0, rfl, (h'.lt g rfl).2, by rw [Nat.zero_add]; exact A 0 (by omega), by rw [Nat.zero_add]; exact A 1 (by omega), by rw [Nat.zero_add]; exact A 2 (by omega), by rw [Nat.zero_add]; exact A 3 (by omega), by rw [Nat.zero_add]; exact A 4 (by omega), by rw [Nat.zero_add]; exact A 5 (by omega)⟩
theorem lineF_len (e : Ev) : ∀ (fs out : List UInt8), (∀ f ∈ fs, (figT f (getF e f)).length ≤ 384) → (lineF e out fs).length ≤ out.length + 385 * fs.length
  | [], out, _ => by simp [lineF]
  | f :: fs, out, h => by
    have h1 := h f (by simp)
    have h2 := lineF_len e fs (out ++ 32 :: figT f (getF e f)) (fun x hx => h x (by simp [hx]))
    unfold lineF
    simp only [List.length_append, List.length_cons] at h2 ⊢
    omega
theorem line_short (e : Ev) (he : e.Ok) (h1 : 1 ≤ e.k) (h2 : e.k ≤ 15) : (lineT MK e ++ [10]).length ≤ 1162 := by
  obtain ⟨j, hj⟩ : ∃ j : Nat, e.k = (j : Int) + 1 := ⟨(e.k - 1).toNat, by omega⟩
  obtain ⟨hfu, hlen⟩ := form_letters e.k
  have h3 := lineF_len e (formU e.k) (wordL j) (fun f hf => fits_len (hfu f hf) (he.fits f (hfu f hf)))
  have h4 := word_len j
  rw [line_plain e j hj]
  simp only [List.length_append, List.length_singleton]
  omega
theorem may_kind {e : Ev} (h : may e = true) : 1 ≤ e.k ∧ e.k ≤ 15 := ⟨(may_parts h).1.1, (may_parts h).1.2.1⟩
/-- What events are written as. -/
def IsTexted (t : List UInt8 × Int) (w : World) (e : Ending) (w' : World) : Prop := e = .returned (.tuple #[.string (str t.1), .int .i64 t.2]) ∧ Below w.heap.size w w'
def TxI (l : List Ev) (w : World) (t : Value) (wr : World) : Prop := ∃ k : Nat, k ≤ l.length ∧ t = .int .i64 k ∧ (∀ j e, j < k → l[j]? = some e → may e = true) ∧ Below w.heap.size w wr
theorem all_may {l : List Ev} (h : ∀ j e, j < l.length → l[j]? = some e → may e = true) : l.all may = true := by
  rw [List.all_eq_true]
  intro e he
  obtain ⟨j, hj⟩ := List.getElem?_of_mem he
  exact h j e (List.getElem?_eq_some_iff.1 hj).1 hj
theorem not_all {l : List Ev} {k : Nat} {e : Ev} (h : l[k]? = some e) (hm : may e = false) : textP MK l = ([], 1) := by
  unfold textP
  rw [if_neg]
  intro ha
  rw [List.all_eq_true] at ha
  have := ha e (List.mem_of_getElem? h)
  rw [hm] at this
  cases this
def TyI (l : List Ev) (w : World) (v t : Value) (wr : World) : Prop := ∃ (k : Nat) (out : List UInt8), k ≤ l.length ∧ t = .int .i64 k ∧ Mask.Out w.heap.size v out wr ∧ out = linesT MK (l.take k) ∧ out.length ≤ 1162 * k ∧ Below w.heap.size w wr

theorem out_shape {B : Nat} {v : Value} {l : List UInt8} {w : World} (h : Mask.Out B v l w) : ∃ va vc, v = .slice va l.length vc := by
  rcases h.shape with ⟨h1, h2⟩ | ⟨g, cap, h1⟩
  · subst h2; exact ⟨none, 0, h1⟩
  · exact ⟨_, cap, h1⟩
set_option maxHeartbeats 4000000 in
theorem text_ (a : Option Addr) (l : List Ev) (cap : Nat) (w : World) (hT : Tab w) (hV : Evs a l w) (hok : ∀ e ∈ l, e.Ok) (hl : l.length ≤ 1073741824) : Calls Tryd.prog 13 #[.slice a l.length cap] w (IsTexted (textP MK l) w) := by
  obtain ⟨i0, hi, hz0, hz1, hz2⟩ := Mem.info_parts Mask.infoU8
  have MM := Lib.hid (fun (w : World) (hT : Tab w) (e : Ev) => may_ e w hT)
  have OK := Lib.hid hok
  clear hok
  have st : Hid (TxI l w (.int .i64 0) w) := Lib.hid ⟨0, Nat.zero_le _, rfl, fun j e hj => absurd hj (Nat.not_lt_zero _), Below.refl _ _⟩
  obtain ⟨n, hn⟩ : ∃ n, n = l.length := ⟨_, rfl⟩
  have hn' := Lib.hid hn
  rw [← hn] at hl ⊢
  clear hn
  go_enter Tryd.func13, Tryd.ntmps13
  go_wp2
  go_loopw [11] (fun t wr => TxI l w t wr) (fun t _ => n - (intOf t).toNat)
  case atStart => exact st.out
  case round =>
    clear st
    obtain ⟨k, hk, rfl, hmay, hg⟩ := hrel
    rw [← hn'.out] at hk
    by_cases hlt : k < n
    · have hlt' : (k : Int) < n := by omega
      obtain ⟨e, he⟩ : ∃ e, l[k]? = some e := ⟨_, List.getElem?_eq_getElem (by rw [← hn'.out]; exact hlt)⟩
      obtain ⟨b, off, rfl, hb, c0, c1, c2, c3, c4, c5⟩ := (hV.fresh hg) k e he
      have hT1 := hT.fresh hg
      have M1 := Lib.hid (fun (w : World) (hT : Tab w) => MM.out w hT e)
      have NX : Hid (may e = true → ∀ W, Below w.heap.size w W → TxI l w (.int .i64 ((k : Int) + 1)) W) := Lib.hid (fun hm W hW => ⟨k + 1, by rw [← hn'.out]; omega, by go_num, fun j x hj hx => by
        by_cases hjk : j = k
        · subst hjk; rw [he] at hx; cases hx; exact hm
        · exact hmay j x (by omega) hx, hW⟩)
      have NO : Hid (may e = false → textP MK l = ([], 1)) := Lib.hid (fun hm => not_all he hm)
      have hg1 := hg.alloc hg.size (.cells (evC e) 33)
      have hT2 := hT.fresh hg1
      obtain ⟨ek, ea, eb, en, em, es⟩ := e
      unfold evV at M1
      unfold evC at M1 hg1 hT2
      simp only at M1 hg1 hT2 c0 c1 c2 c3 c4 c5
      generalize may ⟨ek, ea, eb, en, em, es⟩ = bm at *
      clear hmay he hg hT1 MM OK
      cases bm with
      | true =>
        go_wp2_with (go_at_call 17; refine (M1.out _ hT2).mono ?_; rintro e w1 ⟨rfl, h1⟩; replace hg1 := hg1.trans (h1.mono hg1.size); clear h1)
        go_roundw
        case rel => exact NX.out (by trivial) _ hg1
        case measure => simp [intOf]; omega
      | false =>
        go_wp2_with (go_at_call 17; refine (M1.out _ hT2).mono ?_; rintro e w1 ⟨rfl, h1⟩; replace hg1 := hg1.trans (h1.mono hg1.size); clear h1)
        go_ret2
        refine ⟨?_, hg1⟩
        rw [NO.out (by trivial)]
        rfl
    · obtain rfl : k = n := by omega
      have hall : l.all may = true := all_may (fun j e hj hx => hmay j e (by rw [hn'.out]; exact hj) hx)
      have hT1 := hT.fresh hg
      by_cases hbig : 1000 < k
      · have hb' : (1000 : Int) < (k : Int) := by omega
        have hx : Hid (textP MK l = ([], 3)) := Lib.hid (by unfold textP; rw [if_pos hall, if_pos (by rw [← hn'.out]; exact hbig)])
        have hg' := Lib.hid hg
        clear hmay hg hall hT1 MM OK hV hbig hk
        go_wp2_with fail
        go_ret2
        exact ⟨by rw [hx.out]; rfl, hg'.out⟩
      · have hb' : ¬ (1000 : Int) < (k : Int) := by omega
        have hx : Hid (textP MK l = (linesT MK l, 0)) := Lib.hid (by unfold textP; rw [if_pos hall, if_neg (by rw [← hn'.out]; exact hbig)])
        have st2 : Hid (TyI l w (.slice none 0 0) (.int .i64 0) wr) := Lib.hid ⟨0, [], Nat.zero_le _, rfl, ⟨rfl, .inl ⟨rfl, rfl⟩⟩, rfl, by simp, hg⟩
        have HM := Lib.hid (fun j e (hj : j < k) (hx : l[j]? = some e) => hmay j e hj hx)
        have LL := Lib.hid (fun (w : World) (hT : Tab w) (e : Ev) (he : e ∈ l) (hm : may e = true) => line_ e (OK.out e he) (may_kind hm).1 (may_kind hm).2 w hT)
        have LS := Lib.hid (fun (e : Ev) (he : e ∈ l) (hm : may e = true) => line_short e (OK.out e he) (may_kind hm).1 (may_kind hm).2)
        clear hmay hall hT1 MM OK hlt hbig
        go_wp2_with fail
        go_loopw [6, 24] (fun v t wr => TyI l w v t wr) (fun _ t _ => k - (intOf t).toNat)
        case atStart => exact st2.out
        case round =>
          clear st2 hg
          obtain ⟨i, out, hi', rfl, hO, hout, hol, hg⟩ := hrel
          rw [← hn'.out] at hi'
          obtain ⟨va, vc, rfl⟩ := out_shape hO
          by_cases hlt : i < k
          · have hlt' : (i : Int) < k := by omega
            obtain ⟨e, he⟩ : ∃ e, l[i]? = some e := ⟨_, List.getElem?_eq_getElem (by rw [← hn'.out]; exact hlt)⟩
            obtain ⟨b, off, rfl, hb, c0, c1, c2, c3, c4, c5⟩ := (hV.fresh hg) i e he
            have hm := HM.out i e hlt he
            have L1 := Lib.hid (fun (w : World) (hT : Tab w) => LL.out w hT e (List.mem_of_getElem? he) hm)
            have ls := LS.out e (List.mem_of_getElem? he) hm
            have NX : Hid (∀ v' W, Mask.Out w.heap.size v' (out ++ (lineT MK e ++ [10])) W → Below w.heap.size w W → TyI l w v' (.int .i64 ((i : Int) + 1)) W) := Lib.hid (fun v' W h1 h2 => ⟨i + 1, _, by rw [← hn'.out]; omega, by go_num, h1, by
              rw [hout, List.take_add_one, he]
              simp [linesT], by simp only [List.length_append] at ls ⊢; omega, h2⟩)
            have hg1 := hg.alloc hg.size (.cells (evC e) 33)
            have hO1 : Mask.Out w.heap.size (.slice va out.length vc) out (wr.alloc (.cells (evC e) 33)) := hO.alloc _
            have hT2 := hT.fresh hg1
            obtain ⟨ek, ea, eb, en, em, es⟩ := e
            unfold evV at L1
            unfold evC at L1 hg1 hT2 hO1
            simp only at L1 hg1 hT2 hO1 c0 c1 c2 c3 c4 c5
            have hO2 := Lib.hid hO1
            have hsz := str_size (lineT MK ⟨ek, ea, eb, en, em, es⟩ ++ [10])
            have hol2 : out.length ≤ 1162000 := by omega
            have eb2 : Lib.byteCells (lineT MK ⟨ek, ea, eb, en, em, es⟩ ++ [10]) = Lib.byteCells (str (lineT MK ⟨ek, ea, eb, en, em, es⟩ ++ [10])).data.toList := by rw [str_list]
            generalize lineT MK ⟨ek, ea, eb, en, em, es⟩ ++ [10] = ln at *
            clear hO hout hol he hg hm LL LS HM hO1
            go_wp2_with (first
              | (go_at_call 24; refine (L1.out _ hT2).mono ?_; rintro e w1 ⟨rfl, h1⟩; replace hO2 := Lib.hid (owns_fresh hO2.out h1); replace hg1 := hg1.trans (h1.mono hg1.size); clear h1)
              | (at_builtin; refine Lib.wpList_append_own_string _ rfl _ _ 54 9 rfl w.heap.size 5 i0 Tryd.underlying54 Tryd.underlying9 hi hz0 hz1 hz2 _ _ _ rfl hO2.out (str ln) rfl (by rw [hsz]; unfold maxLen; omega) (by rw [hsz]; omega) hg1.size ?_; intro v' w3 hown' hgrow _))
            go_roundw
            case rel =>
              refine NX.out v' w3 ?_ (hg1.grown hgrow hg1.size (fun k hk => (hO2.out.lt k hk).1))
              unfold Mask.Out
              rw [Mask.byteCells_append, List.length_append, eb2, ← hsz]
              exact hown'
            case measure => simp [intOf]; omega
          · obtain rfl : i = k := by omega
            have hs := hO.string
            have hx2 : Hid (out = linesT MK l) := Lib.hid (by rw [hout, List.take_of_length_le (by rw [← hn'.out]; exact Nat.le_refl _)])
            have hg' := Lib.hid hg
            have hs' : (convert 54 9 (.slice va out.length vc)).run Tryd.prog wr = .ok (.string (str out)) wr := hs
            clear hO hout hol hg hV LL LS HM hs
            go_wp2_with fail
            go_ret2
            refine ⟨?_, hg'.out⟩
            rw [hx.out, ← hx2.out]
            rfl
end Go.Proofs.YtikdhfedidknpaaDoor.Event
