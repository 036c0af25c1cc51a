/- What event.read makes of a line. Conditions: the listed variables hold what they are listed with; the line is of at most 2^47 - 4096 bytes. -/
import Derived.Test.YtikdhfedidknpaaDoorEventKinds
import Derived.Test.YtikdhfedidknpaaDoorMem
import Derived.BigQuiet
import Derived.BigRegion
namespace Go.Proofs.YtikdhfedidknpaaDoor.Event
open Go.ChangeShapes Go.WideShapes Go.ChangeAt Go.RowKit
open Mem (box_fresh set_block one_grown box_kept box_new)
set_option linter.unusedVariables false
set_option linter.unusedSimpArgs false
set_option maxRecDepth 100000
attribute [local irreducible] Go.wpQuiet

/-- An event in a block of its own. -/
def EvB (w : World) (b : Nat) (e : Ev) : Prop := w.heap[b]? = some (.cells (evC e) 33 (0, 0))
theorem EvB.fresh {w w' : World} {b : Nat} {e : Ev} (h : EvB w b e) (hg : Below w.heap.size w w') : EvB w' b e := box_fresh h hg
theorem EvB.lt {w : World} {b : Nat} {e : Ev} (h : EvB w b e) : b < w.heap.size := Mem.lt_of h
theorem EvB.six {w : World} {b : Nat} {e : Ev} (h : EvB w b e) : w.cell? ⟨b, 0, none⟩ = some (.int .i64 e.k) ∧ w.cell? ⟨b, 1, none⟩ = some (.int .i64 e.a) ∧ w.cell? ⟨b, 2, none⟩ = some (.int .i64 e.b) ∧ w.cell? ⟨b, 3, none⟩ = some (.int .i64 e.n) ∧ w.cell? ⟨b, 4, none⟩ = some (.int .i64 e.m) ∧ w.cell? ⟨b, 5, none⟩ = some (.int .u64 (e.s : Int)) ∧ (∀ j, w.frozen? ⟨b, j, none⟩ = false) := by
  refine ⟨?_, ?_, ?_, ?_, ?_, ?_, fun j => frozen_of_row w b j _ _ h⟩
  all_goals rw [cell_of_row w b _ _ _ _ h]; rfl
def put6 (W : World) (b : Nat) (e : Ev) : World := (((((W.setCell ⟨b, 0, none⟩ (.int .i64 e.k)).setCell ⟨b, 1, none⟩ (.int .i64 e.a)).setCell ⟨b, 2, none⟩ (.int .i64 e.b)).setCell ⟨b, 3, none⟩ (.int .i64 e.n)).setCell ⟨b, 4, none⟩ (.int .i64 e.m)).setCell ⟨b, 5, none⟩ (.int .u64 (e.s : Int))
theorem put6_grown (w : World) (b : Nat) (e : Ev) : w.grownBy (put6 w b e) (some b) :=
  (((((one_grown _ _ _ _).trans (one_grown _ _ _ _)).trans (one_grown _ _ _ _)).trans (one_grown _ _ _ _)).trans (one_grown _ _ _ _)).trans (one_grown _ _ _ _)
theorem put6_block {w : World} {b : Nat} {e0 : Ev} (h : EvB w b e0) (e : Ev) : EvB (put6 w b e) b e := by
  unfold EvB put6
  rw [set_block (set_block (set_block (set_block (set_block (set_block h 0 _) 1 _) 2 _) 3 _) 4 _) 5 _]
  rfl
theorem put6_other {w : World} {b c : Nat} {o : Obj} (h : w.heap[c]? = some o) (hne : c ≠ b) (e : Ev) : (put6 w b e).heap[c]? = some o := box_kept h (put6_grown w b e) (fun h => hne (Option.some.inj h).symm)
theorem put6_below {n b : Nat} {w W : World} (h : Below n w W) (hb : n ≤ b) (e : Ev) : Below n w (put6 W b e) :=
  (((((h.setCell (p := ⟨b, 0, none⟩) hb _).setCell (p := ⟨b, 1, none⟩) hb _).setCell (p := ⟨b, 2, none⟩) hb _).setCell (p := ⟨b, 3, none⟩) hb _).setCell (p := ⟨b, 4, none⟩) hb _).setCell (p := ⟨b, 5, none⟩) hb _
theorem put6_size (w : World) (b : Nat) (e : Ev) : (put6 w b e).heap.size = w.heap.size := by simp [put6, World.setCell]
theorem new_ev (w : World) (e : Ev) : EvB (w.alloc (.cells (evC e) 33)) w.heap.size e := heap_alloc_new w _

theorem drawnB {B : Nat} {w W : World} (h : Below B w W) (n : Nat) : Below B w (W.drewN n) := h.trans ⟨rfl, rfl, rfl, Nat.le_refl _, fun _ _ => rfl⟩
/-- What a line is read as. -/
def IsRead (g : Got) (w : World) (e : Ending) (w' : World) : Prop := e = .returned (.tuple #[evV g.e, .int .i64 g.bad]) ∧ Below w.heap.size w w'
theorem form_letters (k : Int) : (∀ f ∈ formU k, Fu f) ∧ (formU k).length ≤ 3 := by
  rcases form_is k with h | h | h | h | h | h <;> (unfold formU; rw [h]; decide)
theorem kind_range (l : List UInt8) (h : kindOf l ≠ 0) : 1 ≤ kindOf l ∧ kindOf l ≤ 15 := ⟨(kind_inv h).1, (kind_inv h).2.1⟩
theorem ahead_len (c : UInt8) (l : List UInt8) : (Mask.ahead c l).length ≤ l.length := by
  by_cases h : Mask.found c l = true
  · have := congrArg List.length (Mask.split_found h)
    simp at this; omega
  · rw [(Mask.split_none (show Mask.found c l = false by simpa using h)).1]; exact Nat.le_refl _
theorem behind_len (c : UInt8) (l : List UInt8) : (Mask.behind c l).length ≤ l.length := by
  unfold Mask.behind
  have h1 := (List.dropWhile_sublist (· != c) (l := l)).length_le
  have h2 := List.length_tail (l := l.dropWhile (· != c))
  omega
theorem letter_at (fs : List UInt8) (hf : ∀ f ∈ fs, Fu f) (pos : Nat) (h : pos < (str fs).size) : ∃ f, Fu f ∧ Utf8.decode (str fs) pos = (f.toNat, 1) ∧ fs.drop pos = f :: fs.drop (pos + 1) := by
  have hl : pos < fs.length := by rw [str_size] at h; exact h
  have e : (str fs)[pos]'h = fs[pos] := rfl
  have hfu := hf _ (List.getElem_mem hl)
  refine ⟨fs[pos], hfu, ?_, List.drop_eq_getElem_cons hl⟩
  have := decode_ascii (str fs) pos h (by rw [e]; rcases hfu with h | h | h | h | h <;> (rw [h]; decide))
  rw [this, e]
theorem val_pos (f : UInt8) (s : List UInt8) (h : f = 83) : 0 ≤ (valF MK f s).1 := by
  subst h
  unfold valF
  rw [if_neg (by decide), if_neg (by decide)]
  split
  · exact Int.le_refl _
  · split
    · exact Int.le_refl _
    · split
      · exact Int.natCast_nonneg _
      · exact Int.le_refl _

/-- An iterator's place in a text. -/
def ItB (w : World) (b : Nat) (s : ByteArray) (pos : Nat) : Prop := w.heap[b]? = some (.stringIter s pos)
theorem ItB.fresh {w w' : World} {b pos : Nat} {s : ByteArray} (h : ItB w b s pos) (hg : Below w.heap.size w w') : ItB w' b s pos := box_fresh h hg
/-- How far a line was read. -/
def RdI (fs : List UInt8) (g : Got) (eb ib : Nat) (w : World) (v : Value) (wr : World) : Prop :=
  ∃ (pos : Nat) (e : Ev) (rest : List UInt8), v = .string (str rest) ∧ pos ≤ fs.length ∧ rest.length ≤ 140737488351232 ∧ EvB wr w.heap.size Ev.zero ∧ EvB wr eb e ∧ ItB wr ib (str fs) pos ∧ Below w.heap.size w wr ∧ Hid (readF MK e (fs.drop pos) rest = g)
theorem read_end (W : World) (w : World) (g : Got) (hg : Below w.heap.size w W) (hR : EvB W w.heap.size Ev.zero) (e : Ev) (b : Int) (h : g = ⟨e, b⟩) :
    IsRead g w (.returned (.tuple #[evV e, .int .i64 b])) (put6 W w.heap.size e) ∧ EvB (put6 W w.heap.size e) w.heap.size e := by
  subst h
  exact ⟨⟨rfl, put6_below hg (Nat.le_refl _) e⟩, put6_block hR e⟩

set_option maxHeartbeats 4000000 in
theorem read_ (l : List UInt8) (hl : l.length ≤ 140737488351232) (w : World) (hT : Tab w) : Calls Tryd.prog 21 #[.string (str l)] w (IsRead (readP MK l) w) := by
  have C0 := Lib.hid (fun (w : World) => cut_ 32 l hl w)
  have K0 := Lib.hid (fun (w : World) (hT : Tab w) => kindOf_ (Mask.ahead 32 l) w hT)
  have N0 := Lib.hid (fun (w : World) => Tryd.strings_Count_one (str l) 32 w)
  have hg : Below w.heap.size w (w.alloc (.cells (evC Ev.zero) 33)) := Mem.alloc1 _ _
  have hR := new_ev w Ev.zero
  unfold evC Ev.zero at hg hR
  have hcl : Lib.countByte (str l).data.toList 32 = l.count 32 := by rw [str_list]; rfl
  rw [hcl] at N0
  obtain ⟨g, hgd⟩ : ∃ g, g = readP MK l := ⟨_, rfl⟩
  rw [← hgd]
  have hgd' := Lib.hid hgd
  clear hgd
  generalize hk : kindOf (Mask.ahead 32 l) = k at *
  go_enter Tryd.func21, Tryd.ntmps21
  go_upto_region 3 with (first
    | (go_at_call 20; refine (C0.out _).mono ?_; rintro e w1 ⟨rfl, hg1⟩; replace hR := EvB.fresh hR hg1; replace hg := hg.trans (hg1.mono hg.size); clear hg1)
    | (go_at_call 34; refine (K0.out _ (hT.fresh hg)).mono ?_; rintro e w2 ⟨rfl, hg1⟩; replace hR := EvB.fresh hR hg1; replace hg := hg.trans (hg1.mono hg.size); clear hg1))
  have hlt := hR.lt
  have hE := new_ev w2 ⟨k, 0, 0, 0, 0, 0⟩
  have hg2 := Below.alloc hg hg.size (.cells (evC ⟨k, 0, 0, 0, 0, 0⟩) 33)
  have hR2 := EvB.fresh hR (Mem.alloc1 w2 (.cells (evC ⟨k, 0, 0, 0, 0, 0⟩) 33))
  obtain ⟨eb, heb⟩ : ∃ eb, eb = w2.heap.size := ⟨_, rfl⟩
  rw [← heb] at hE hlt ⊢
  have heb' := Lib.hid heb
  clear heb
  unfold evC at hE hg2 hR2
  simp only at hE hg2 hR2
  clear hR hg K0 C0
  have hT2 := hT.fresh hg2
  have F := Lib.hid (fun (h1 : 1 ≤ k) (h2 : k ≤ 15) (w : World) (hT : Tab w) => fields_ k h1 h2 w hT)
  generalize w2.alloc _ = W at *
  obtain ⟨x0, x1, x2, x3, x4, x5, xz⟩ := EvB.six (e := ⟨k, 0, 0, 0, 0, 0⟩) hE
  obtain ⟨y0, y1, y2, y3, y4, y5, yz⟩ := EvB.six (e := ⟨0, 0, 0, 0, 0, 0⟩) hR2
  clear heb'
  simp only at x0 x1 x2 x3 x4 x5 y0 y1 y2 y3 y4 y5
  have yd : ∀ n j, (W.drewN n).frozen? ⟨w.heap.size, j, none⟩ = false := fun n j => yz j
  have xd : ∀ n j, (W.drewN n).frozen? ⟨eb, j, none⟩ = false := fun n j => xz j
  by_cases hk0 : k = 0
  · have e0 : (k == 0) = true := by simpa using hk0
    have hrd : readP MK l = ⟨Ev.zero, 11⟩ := by unfold readP; rw [if_pos (.inl (hk.trans hk0))]
    have FIN := Lib.hid (fun n => (show IsRead g w (.returned (.tuple #[evV Ev.zero, .int .i64 11])) (put6 (W.drewN n) w.heap.size Ev.zero) from ⟨by rw [hgd'.out, hrd], put6_below (drawnB hg2 n) (Nat.le_refl _) Ev.zero⟩))
    have hR3 := Lib.hid hR2
    clear F N0 hrd hk hcl hT hT2 hE hR2
    subst hk0
    go_quiet (fail)
    rename_i nq
    have F1 := FIN.out nq
    have B6 := EvB.six (put6_block (w := W.drewN nq) (e0 := ⟨0, 0, 0, 0, 0, 0⟩) hR3.out Ev.zero)
    unfold put6 Ev.zero at F1 B6
    simp only [show ((0 : Nat) : Int) = 0 from rfl] at B6 F1
    have B7 := Lib.hid B6
    replace F1 := Lib.hid F1
    clear FIN B6
    go_wp2_with fail
    obtain ⟨z0, z1, z2, z3, z4, z5, _⟩ := B7.out
    have F2 := F1.out
    clear B7 F1
    generalize World.setCell _ ⟨w.heap.size, 5, none⟩ _ = WF at *
    refine bodyPost_ret (v := .tuple #[evV Ev.zero, .int .i64 11]) (by simp [results, Tryd.results21, go_sem, evV, evC, Ev.zero, z0, z1, z2, z3, z4, z5]) rfl ?_
    exact F2
  · have e0 : (k == 0) = false := by simpa using hk0
    obtain ⟨k1, k2⟩ := kind_range (Mask.ahead 32 l) (by rw [hk]; exact hk0)
    rw [hk] at k1 k2
    have F2 := Lib.hid (F.out k1 k2)
    have hS := str_size (formU k)
    obtain ⟨hfu, hlen⟩ := form_letters k
    by_cases hc : l.count 32 = (formU k).length
    · have hst : Hid (readF MK ⟨k, 0, 0, 0, 0, 0⟩ (formU k) (Mask.behind 32 l) = g) := Lib.hid (by
        rw [hgd'.out]
        unfold readP
        rw [if_neg (by rw [hk]; rintro (h | h); exact hk0 h; exact h hc), hk]
        rfl)
      have hbl : (Mask.behind 32 l).length ≤ 140737488351232 := Nat.le_trans (behind_len 32 l) hl
      have c1 : (((l.count 32 : Nat) : Int) != ((str (formU k)).size : Int)) = false := by rw [hS]; simp; omega
      have c2 : (l.count 32 != (str (formU k)).size) = false := by rw [hS]; simp; omega
      have hT3 : ∀ n, Tab (W.drewN n) := fun n => hT2.fresh (drawnB (Below.refl _ _) n)
      have hS' := Lib.hid hS
      clear F hk hcl hk0 hlen hc hgd' hS
      generalize hfs : formU k = fs at *
      have hfs' := Lib.hid hfs
      clear hfs
      generalize l.count 32 = c at *
      go_quiet (first
        | (go_at_call 31; exact Calls.quiet_of_same (N0.out _))
        | (go_at_call 26; exact Calls.quiet_of_same (F2.out _ (by first | exact hT2 | exact hT3 _))))
      rename_i nq
      have hT4 := hT3 nq
      have hR4 : EvB (W.drewN nq) w.heap.size Ev.zero := hR2
      have hE4 : EvB (W.drewN nq) eb ⟨k, 0, 0, 0, 0, 0⟩ := hE
      have hg4 := drawnB hg2 nq
      have x0' : (W.drewN nq).cell? ⟨eb, 0, none⟩ = some (.int .i64 k) := x0
      clear hT3 hT2 hR2 hE hg2 x0 x1 x2 x3 x4 x5 xz y0 y1 y2 y3 y4 y5 yz xd yd c1 c2 N0
      generalize W.drewN nq = W4 at *
      have st : Hid (RdI fs g eb W4.heap.size w (.string (str (Mask.behind 32 l))) (W4.iter (str fs) 0)) := by
        have hb : Below W4.heap.size W4 (W4.iter (str fs) 0) := (Below.refl _ W4).alloc (Nat.le_refl _) _
        refine Lib.hid ⟨0, _, _, rfl, Nat.zero_le _, hbl, hR4.fresh hb, hE4.fresh hb, ?_, hg4.trans (hb.mono hg4.size), hst⟩
        show (W4.heap.push _)[W4.heap.size]? = _
        rw [Array.getElem?_push, if_pos rfl]
      obtain ⟨ib, hib⟩ : ∃ ib, ib = W4.heap.size := ⟨_, rfl⟩
      go_wp2_with (go_at_call 26; refine (F2.out _ hT4).mono ?_; rintro e w5 ⟨rfl, hw⟩; replace hw := hw.symm; subst hw)
      have hei := hE4.lt
      rw [← hib] at st hei ⊢
      clear hib hT4 hR4 hE4 hg4 x0' F2
      generalize W4.iter (str fs) 0 = W5 at *
      go_loopw [5] (fun v wr => RdI fs g eb ib w v wr) (fun _ wr => (str fs).size - wr.iterPos ib)
      case atStart => exact st.out
      case round =>
        clear st
        obtain ⟨pos, ⟨ek, ea, ebb, en, em, es⟩, rest, rfl, hp, hrl, hR, hE, hI, hg, hgo⟩ := hrel
        have mixed : Tryd.prog.follows Departure.mixedOrders = true := by kernel_rfl
        by_cases hlt' : pos < (str fs).size
        · obtain ⟨f, hf, hdec, hdrop⟩ := letter_at fs hfu pos hlt'
          have hnx : ∀ ty, (Instr.next (.pointer (some ⟨ib, 0, none⟩)) true ty).run Tryd.prog wr = _ := fun ty => Lib.run_next_any_at wr ib (str fs) pos ty hI hlt'
          rw [hdec] at hnx
          simp only at hnx
          have hR1 : EvB (wr.iterAt ib (str fs) (pos + 1)) w.heap.size Ev.zero := by unfold EvB; rw [Lib.iterAt_other _ _ _ _ _ (by omega)]; exact hR
          have hE1 : EvB (wr.iterAt ib (str fs) (pos + 1)) eb ⟨ek, ea, ebb, en, em, es⟩ := by unfold EvB; rw [Lib.iterAt_other _ _ _ _ _ (by omega)]; exact hE
          have hI1 : ItB (wr.iterAt ib (str fs) (pos + 1)) ib (str fs) (pos + 1) := Lib.iterAt_heap _ _ _ _ _ hI
          have hg1 : Below w.heap.size w (wr.iterAt ib (str fs) (pos + 1)) := Lib.below_iterAt hg (by omega) _ _
          have hI0 := Lib.hid hI
          generalize wr.iterAt ib (str fs) (pos + 1) = W1 at *
          clear hR hE hI hg
          have hT1 := hT.fresh hg1
          have hg := hg1
          have hR := hR1
          have hE := hE1
          have hI := hI1
          clear hg1 hR1 hE1 hI1
          have CC := Lib.hid (fun (w : World) => cut_ 32 rest hrl w)
          have FF := Lib.hid (fun (w : World) => field_ ⟨ek, ea, ebb, en, em, es⟩ f hf w)
          have VV := Lib.hid (fun (w : World) (hT : Tab w) => value_ f hf (getF ⟨ek, ea, ebb, en, em, es⟩ f) (Mask.ahead 32 rest) (Nat.le_trans (ahead_len 32 rest) hrl) w hT)
          have hgo' := Lib.hid (show (if (valF MK f (Mask.ahead 32 rest)).2 ≠ 0 then (⟨Ev.zero, (valF MK f (Mask.ahead 32 rest)).2⟩ : Got) else readF MK (putF ⟨ek, ea, ebb, en, em, es⟩ f (valF MK f (Mask.ahead 32 rest)).1) (fs.drop (pos + 1)) (Mask.behind 32 rest)) = g by
            have := hgo.out
            rw [hdrop] at this
            exact this)
          have hpos := val_pos f (Mask.ahead 32 rest)
          have hrl2 := Nat.le_trans (behind_len 32 rest) hrl
          have hpl : pos + 1 ≤ fs.length := by rw [str_size] at hlt'; omega
          unfold IsVal at VV
          unfold evV evC at FF
          simp only at FF
          clear hgo hdec hdrop hrl hfu hfs' hl hS' hbl
          generalize valF MK f (Mask.ahead 32 rest) = x at *
          obtain ⟨xv, xe⟩ := x
          simp only at hgo' VV hpos
          generalize fvOf f (getF ⟨ek, ea, ebb, en, em, es⟩ f) = FV at *
          generalize str (Mask.ahead 32 rest) = sa at *
          by_cases hx : xe = 0
          · subst hx
            have WW := Lib.hid (fun (w : World) => with_ ⟨ek, ea, ebb, en, em, es⟩ f hf xv hpos w)
            have hgo2 := Lib.hid (show readF MK (putF ⟨ek, ea, ebb, en, em, es⟩ f xv) (fs.drop (pos + 1)) (Mask.behind 32 rest) = g by have := hgo'.out; simpa using this)
            simp only [if_pos] at VV
            unfold evV evC at WW
            generalize putF ⟨ek, ea, ebb, en, em, es⟩ f xv = e2 at *
            simp only at WW
            generalize fvOf f xv = FX at *
            clear hgo' hpos hf
            go_wp2_with (first
              | (go_at_call 20; refine (CC.out _).mono ?_; rintro e w1 ⟨rfl, h1⟩; replace hg := hg.trans (h1.mono hg.size); replace hR := EvB.fresh hR h1; replace hE := EvB.fresh hE h1; replace hI := ItB.fresh hI h1; replace hT1 := hT1.fresh h1; clear h1; obtain ⟨x0, x1, x2, x3, x4, x5, xz⟩ := EvB.six hE; simp only at x0 x1 x2 x3 x4 x5)
              | (go_at_call 28; refine (FF.out _).mono ?_; rintro e w1 ⟨rfl, h1⟩; replace hg := hg.trans (h1.mono hg.size); replace hR := EvB.fresh hR h1; replace hE := EvB.fresh hE h1; replace hI := ItB.fresh hI h1; replace hT1 := hT1.fresh h1; clear h1)
              | (go_at_call 35; refine (VV.out _ hT1).mono ?_; rintro e w1 ⟨rfl, h1⟩; replace hg := hg.trans (h1.mono hg.size); replace hR := EvB.fresh hR h1; replace hE := EvB.fresh hE h1; replace hI := ItB.fresh hI h1; replace hT1 := hT1.fresh h1; clear h1; obtain ⟨x0, x1, x2, x3, x4, x5, xz⟩ := EvB.six hE; simp only at x0 x1 x2 x3 x4 x5)
              | (go_at_call 27; refine (WW.out _).mono ?_; rintro e w1 ⟨rfl, h1⟩; replace hg := hg.trans (h1.mono hg.size); replace hR := EvB.fresh hR h1; replace hE := EvB.fresh hE h1; replace hI := ItB.fresh hI h1; replace hT1 := hT1.fresh h1; clear h1; obtain ⟨x0, x1, x2, x3, x4, x5, xz⟩ := EvB.six hE; simp only at x0 x1 x2 x3 x4 x5))
            go_roundw
            case rel => exact ⟨pos + 1, e2, Mask.behind 32 rest, rfl, hpl, hrl2, put6_other hR (by omega) e2, put6_block hE e2, put6_other hI (by omega) e2, put6_below hg (by omega) e2, hgo2⟩
            case measure =>
              have hI2 := put6_other (e := e2) (b := eb) hI (by omega)
              unfold put6 at hI2
              simp only [World.iterPos, hI2]
              rw [show wr.heap[ib]? = some (.stringIter (str fs) pos) from hI0.out]
              simp only
              omega
          · have hx' : (xe != 0) = true := by simpa using hx
            have hge : Hid (g = ⟨Ev.zero, xe⟩) := Lib.hid (by have := hgo'.out; rw [if_pos hx] at this; exact this.symm)
            rw [if_neg hx] at VV
            clear hgo' hpos hf hx
            go_wp2_with (first
              | (go_at_call 20; refine (CC.out _).mono ?_; rintro e w1 ⟨rfl, h1⟩; replace hg := hg.trans (h1.mono hg.size); replace hR := EvB.fresh hR h1; replace hE := EvB.fresh hE h1; replace hI := ItB.fresh hI h1; replace hT1 := hT1.fresh h1; clear h1; obtain ⟨x0, x1, x2, x3, x4, x5, xz⟩ := EvB.six hE; simp only at x0 x1 x2 x3 x4 x5)
              | (go_at_call 28; refine (FF.out _).mono ?_; rintro e w1 ⟨rfl, h1⟩; replace hg := hg.trans (h1.mono hg.size); replace hR := EvB.fresh hR h1; replace hE := EvB.fresh hE h1; replace hI := ItB.fresh hI h1; replace hT1 := hT1.fresh h1; clear h1)
              | (go_at_call 35; refine (VV.out _ hT1).mono ?_; rintro e w1 ⟨rfl, h1⟩; replace hg := hg.trans (h1.mono hg.size); replace hR := EvB.fresh hR h1; replace hE := EvB.fresh hE h1; replace hI := ItB.fresh hI h1; replace hT1 := hT1.fresh h1; clear h1; obtain ⟨y0, y1, y2, y3, y4, y5, yz⟩ := EvB.six hR; unfold Ev.zero at y0 y1 y2 y3 y4 y5; simp only at y0 y1 y2 y3 y4 y5))
            obtain ⟨F1, B6⟩ := read_end _ w g hg hR Ev.zero xe hge.out
            have B7 := EvB.six B6
            unfold put6 Ev.zero at F1 B7
            simp only [show ((0 : Nat) : Int) = 0 from rfl] at B7 F1
            clear B6
            obtain ⟨z0, z1, z2, z3, z4, z5, _⟩ := B7
            generalize World.setCell _ ⟨w.heap.size, 5, none⟩ _ = WF at *
            refine bodyPost_ret (v := .tuple #[evV Ev.zero, .int .i64 xe]) (by simp [results, Tryd.results21, go_sem, evV, evC, Ev.zero, z0, z1, z2, z3, z4, z5]) rfl ?_
            exact F1
        · have hnx : ∀ ty, (Instr.next (.pointer (some ⟨ib, 0, none⟩)) true ty).run Tryd.prog wr = _ := fun ty => Lib.run_next_end_at wr ib (str fs) pos ty hI hlt'
          have hge : Hid (g = ⟨⟨ek, ea, ebb, en, em, es⟩, 0⟩) := Lib.hid (by
            have := hgo.out
            rw [List.drop_eq_nil_of_le (by rw [str_size] at hlt'; omega)] at this
            exact this.symm)
          have hg' := Lib.hid hg
          have hR' := Lib.hid hR
          obtain ⟨x0, x1, x2, x3, x4, x5, xz⟩ := EvB.six hE; simp only at x0 x1 x2 x3 x4 x5
          obtain ⟨y0, y1, y2, y3, y4, y5, yz⟩ := EvB.six hR; unfold Ev.zero at y0 y1 y2 y3 y4 y5; simp only at y0 y1 y2 y3 y4 y5
          clear hgo hI hR hE hg hT hl hS' hfs' hfu hbl
          go_wp2_with fail
          obtain ⟨F1, B6⟩ := read_end _ w g hg'.out hR'.out ⟨ek, ea, ebb, en, em, es⟩ 0 hge.out
          have B7 := EvB.six B6
          unfold put6 at F1 B7
          simp only at B7 F1
          clear B6
          obtain ⟨z0, z1, z2, z3, z4, z5, _⟩ := B7
          generalize World.setCell _ ⟨w.heap.size, 5, none⟩ _ = WF at *
          refine bodyPost_ret (v := .tuple #[evV ⟨ek, ea, ebb, en, em, es⟩, .int .i64 0]) (by simp [results, Tryd.results21, go_sem, evV, evC, z0, z1, z2, z3, z4, z5]) rfl ?_
          exact F1
    · have hrd : readP MK l = ⟨Ev.zero, 11⟩ := by unfold readP; rw [if_pos (.inr (by rw [hk]; exact hc))]
      have FIN := Lib.hid (fun n => (show IsRead g w (.returned (.tuple #[evV Ev.zero, .int .i64 11])) (put6 (W.drewN n) w.heap.size Ev.zero) from ⟨by rw [hgd'.out, hrd], put6_below (drawnB hg2 n) (Nat.le_refl _) Ev.zero⟩))
      have c1 : (((l.count 32 : Nat) : Int) != ((str (formU k)).size : Int)) = true := by rw [hS]; simp; omega
      have c2 : (l.count 32 != (str (formU k)).size) = true := by rw [hS]; simp; omega
      have hR3 := Lib.hid hR2
      have hT3 : ∀ n, Tab (W.drewN n) := fun n => hT2.fresh (drawnB (Below.refl _ _) n)
      clear F hrd hk hcl hT hE hR2 hk0 hS hfu hlen hc
      generalize str (formU k) = S at *
      generalize l.count 32 = c at *
      go_quiet (first
        | (go_at_call 31; exact Calls.quiet_of_same (N0.out _))
        | (go_at_call 26; exact Calls.quiet_of_same (F2.out _ (by first | exact hT2 | exact hT3 _))))
      rename_i nq
      have F1 := FIN.out nq
      have B6 := EvB.six (put6_block (w := W.drewN nq) (e0 := ⟨0, 0, 0, 0, 0, 0⟩) hR3.out Ev.zero)
      unfold put6 Ev.zero at F1 B6
      simp only [show ((0 : Nat) : Int) = 0 from rfl] at B6 F1
      have B7 := Lib.hid B6
      replace F1 := Lib.hid F1
      clear FIN B6
      go_wp2_with fail
      obtain ⟨z0, z1, z2, z3, z4, z5, _⟩ := B7.out
      have F2 := F1.out
      clear B7 F1
      generalize World.setCell _ ⟨w.heap.size, 5, none⟩ _ = WF at *
      refine bodyPost_ret (v := .tuple #[evV Ev.zero, .int .i64 11]) (by simp [results, Tryd.results21, go_sem, evV, evC, Ev.zero, z0, z1, z2, z3, z4, z5]) rfl ?_
      exact F2
end Go.Proofs.YtikdhfedidknpaaDoor.Event
