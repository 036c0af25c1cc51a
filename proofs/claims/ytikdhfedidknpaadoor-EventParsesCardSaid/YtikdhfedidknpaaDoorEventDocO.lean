/- What the document's one makes of a line. Conditions: the line is of at most 2^30 bytes. -/
import Derived.Test.YtikdhfedidknpaaDoorEventDocI
import Derived.Test.YtikdhfedidknpaaDoorEventDocC
import Derived.Deep.RegionWith
namespace Go.Proofs.YtikdhfedidknpaaDoor.Event
open Go.ChangeShapes Go.WideShapes Go.ChangeAt Go.RowKit
open Mem (box_fresh set_block one_grown box_kept box_new)
set_option linter.unusedVariables false
set_option linter.unusedSimpArgs false
set_option maxRecDepth 100000

theorem Alike.refl (g : Got) : Alike g g := ⟨rfl, fun _ => rfl⟩
theorem Alike.trans {a b c : Got} (h : Alike a b) (k : Alike b c) : Alike a c := ⟨h.1.trans k.1, fun hc => (h.2 (k.1.trans hc)).trans (k.2 hc)⟩
theorem Alike.field {g T : Got} (h : Alike g T) (f : UInt8) (s : List UInt8) : Alike (field MK g f s) (field MK T f s) := by
  obtain ⟨h1, h2⟩ := h
  unfold Event.field
  by_cases hf : f = 115
  · rw [if_pos hf, if_pos hf]
    by_cases hs : s = noneT
    · rw [if_pos hs, if_pos hs]; exact ⟨h1, h2⟩
    · rw [if_neg hs, if_neg hs, h1]
      refine ⟨rfl, fun h => ?_⟩
      simp only at h ⊢
      split at h
      · cases h
      · split at h
        · cases h
        · rw [h2 h]
  · rw [if_neg hf, if_neg hf, h1]
    refine ⟨rfl, fun h => ?_⟩
    simp only at h ⊢
    split at h
    · cases h
    · rw [h2 h]
/-- What one holds while it reads. -/
structure OnB (w wr : World) (gb pb wb : Nat) (L : List (List UInt8)) (g : Got) : Prop where
  box : GotB wr gb g
  res : GotB wr w.heap.size Got.zero
  st : Strs (some ⟨pb, 0, none⟩) L wr
  wd : Wd wb wr
  be : Below w.heap.size w wr
theorem OnB.fresh {w wr wr' : World} {gb pb wb : Nat} {L : List (List UInt8)} {g : Got} (h : OnB w wr gb pb wb L g) (hb : Below wr.heap.size wr wr') : OnB w wr' gb pb wb L g :=
  ⟨h.box.fresh hb, h.res.fresh hb, h.st.fresh hb, h.wd.fresh hb, h.be.trans (hb.mono h.be.size)⟩
theorem cell_other {a b : World} {k j g : Nat} (hg : a.grownBy b (some g)) (hk : k < a.heap.size) (hne : k ≠ g) : b.cell? ⟨k, j, none⟩ = a.cell? ⟨k, j, none⟩ :=
  World.cell?_of_block (hg.block k hk (fun e => hne (Option.some.inj e)))
theorem OnB.grown {w wr wr' : World} {gb pb wb : Nat} {L : List (List UInt8)} {g g' : Got} (h : OnB w wr gb pb wb L g) (hg : wr.grownBy wr' (some gb)) (h1 : w.heap.size < gb) (h2 : pb ≠ gb) (h3 : wb ≠ gb) (hB : GotB wr' gb g') : OnB w wr' gb pb wb L g' := by
  refine ⟨hB, box_kept h.res hg (fun e => by have := Option.some.inj e; omega), fun j p hp => ?_, ⟨Nat.lt_of_lt_of_le h.wd.1 hg.size, fun j hj => ?_⟩, h.be.grown hg h.be.size (fun k hk => by have := Option.some.inj hk; omega)⟩
  · obtain ⟨b, e1, e2, e3⟩ := h.st j p hp
    cases e1
    exact ⟨pb, rfl, Nat.lt_of_lt_of_le e2 hg.size, (cell_other hg e2 h2).trans e3⟩
  · exact (cell_other hg h.wd.1 h3).trans (h.wd.2 j hj)
/-- The kind found so far. -/
def KwP (p : List UInt8) (i : Nat) (k : Int) : Prop := (k = 0 ∧ ∀ j, j < i → wordL j ≠ p) ∨ (k = kindOf p ∧ ∃ j, j < i ∧ wordL j = p)
theorem KwP.yes {p : List UInt8} {i : Nat} (hi : i < 15) (h : wordL i = p) : KwP p (i + 1) ((i : Int) + 1) := .inr ⟨(kind_yes hi h).symm, i, by omega, h⟩
theorem KwP.no {p : List UInt8} {i : Nat} {k : Int} (hk : KwP p i k) (h : wordL i ≠ p) : KwP p (i + 1) k := by
  rcases hk with ⟨h1, h2⟩ | ⟨h1, j, h2, h3⟩
  · refine .inl ⟨h1, fun j hj => ?_⟩
    by_cases hji : j = i
    · subst hji; exact h
    · exact h2 j (by omega)
  · exact .inr ⟨h1, j, by omega, h3⟩
theorem KwP.end_ {p : List UInt8} {k : Int} (hk : KwP p 15 k) : k = kindOf p := by
  rcases hk with ⟨h1, h2⟩ | ⟨h1, _⟩
  · rw [h1, kind_no h2]
  · exact h1
def kE (k : Int) : Got := ⟨⟨k, 0, 0, 0, 0, 0⟩, 0⟩
def OnI (p0 : List UInt8) (w : World) (gb pb wb : Nat) (L : List (List UInt8)) (t : Value) (wr : World) : Prop :=
  ∃ (i : Nat) (k : Int), i ≤ 15 ∧ t = .int .i64 i ∧ KwP p0 i k ∧ OnB w wr gb pb wb L (kE k)
def OfI (fs : List UInt8) (T : Got) (w : World) (gb pb wb : Nat) (L : List (List UInt8)) (t : Value) (wr : World) : Prop :=
  ∃ (i : Nat) (g g' : Got), i ≤ fs.length ∧ t = .int .i64 i ∧ Alike g' g ∧ Hid (fields MK g (fs.drop i) (L.tail.drop i) = T) ∧ OnB w wr gb pb wb L g'
theorem spl_part_len (c : UInt8) (l : List UInt8) : ∀ p ∈ spl c l, p.length ≤ l.length := by
  induction l with
  | nil =>
    intro p hp
    simp [spl] at hp
    rw [hp]
    exact Nat.le_refl _
  | cons x l ih =>
    intro p hp
    unfold spl at hp
    split at hp
    · rcases List.mem_cons.1 hp with rfl | hp
      · simp
      · have := ih p hp; simp; omega
    · split at hp
      · rw [List.mem_singleton] at hp; rw [hp]; simp
      · rename_i q qs hq
        rcases List.mem_cons.1 hp with rfl | hp
        · have := ih q (by rw [hq]; simp); simp; omega
        · have := ih p (by rw [hq]; simp [hp]); simp; omega
set_option maxHeartbeats 4000000 in
theorem docOne (l : List UInt8) (hl : l.length ≤ 1073741824) (w : World) : Calls Tryd.prog 23 #[.string (str l)] w (IsGot (oneP MK l) w) := by
  have C0 := Lib.hid (fun (w : World) => docCut l hl 32 w)
  have W0 := Lib.hid (fun (w : World) => docWords w)
  have FO := Lib.hid (fun (k : Int) (w : World) => form_ k w)
  obtain ⟨T, hT⟩ : ∃ T, T = oneP MK l := ⟨_, rfl⟩
  rw [← hT]
  unfold oneP at hT
  have hne := spl_ne 32 l
  have hsl : ∀ p ∈ spl 32 l, p.length ≤ 1073741824 := fun p hp => Nat.le_trans (spl_part_len 32 l p hp) hl
  have hLl : (spl 32 l).length ≤ 1073741825 := by
    rw [spl_len]
    have := List.count_le_length (a := (32 : UInt8)) (l := l)
    omega
  generalize spl 32 l = L at *
  obtain ⟨p0, hp0⟩ : ∃ p0, L[0]? = some p0 := by
    cases L with
    | nil => exact absurd rfl hne
    | cons a L => exact ⟨a, rfl⟩
  have hhd : L.head?.getD [] = p0 := by rw [← List.head?_eq_getElem?] at hp0; rw [hp0]; rfl
  rw [hhd] at hT
  have HD := Lib.hid hT
  clear hT hne hhd
  have hR := new_got w Got.zero
  have hg := Mem.alloc1 w (.cells (gotC Got.zero) 52)
  unfold Got.zero Ev.zero gotC at hR hg
  simp only at hR hg
  go_enter Tryd.func23, Tryd.ntmps23
  go_upto_region 2 with (go_at_call 22; refine (C0.out _).mono ?_; rintro e w1 ⟨pa, pc, rfl, hpc, hS, hh⟩; replace hR := hR.fresh hh; replace hg := hg.trans (hh.mono hg.size); clear hh)
  obtain ⟨pb, rfl, hpb, _⟩ := hS 0 p0 hp0
  have hgt : w.heap.size < w1.heap.size := hR.lt
  go_upto_region 4 with (go_at_call 16; refine (W0.out _).mono ?_; rintro e w2 ⟨wb, rfl, hwb, hW, hh⟩)
  have hB0 : OnB w w2 w1.heap.size pb wb L (kE 0) := ⟨GotB.fresh (new_got w1 (kE 0)) hh, GotB.fresh (box_new hR) hh, (hS.fresh (Mem.alloc1 w1 _)).fresh hh, hW.wd, (hg.alloc hg.size _).trans (hh.mono (by rw [World.size_alloc]; omega))⟩
  have hwb2 : w1.heap.size < wb := by
    rw [World.size_alloc] at hwb
    omega
  obtain ⟨gb, hgb⟩ : ∃ gb, gb = w1.heap.size := ⟨_, rfl⟩
  rw [← hgb] at hB0 hwb2 hgt hpb ⊢
  clear hgb hh hW hwb hS hR hg C0 W0
  have n1 : pb ≠ gb := by omega
  have n2 : wb ≠ gb := by omega
  have st : Hid (OnI p0 w gb pb wb L (.int .i64 0) w2) := Lib.hid ⟨0, 0, by omega, rfl, .inl ⟨rfl, fun j hj => absurd hj (Nat.not_lt_zero _)⟩, hB0⟩
  clear hB0
  have mixed : Tryd.prog.follows Departure.mixedOrders = true := by kernel_rfl
  obtain ⟨n, hn⟩ : ∃ n, n = L.length := ⟨_, rfl⟩
  have hn' := Lib.hid hn
  have hn0 : 0 < n := by
    rw [hn]; exact (List.getElem?_eq_some_iff.1 hp0).1
  rw [← hn] at hLl hpc ⊢
  have hn0' : (0 : Int) < (n : Int) := by omega
  clear hn
  go_wp2_with fail
  go_loopw [6] (fun t wr => OnI p0 w gb pb wb L t wr) (fun t _ => 15 - (intOf t).toNat)
  case atStart => exact st.out
  case round =>
    clear st
    obtain ⟨i, k, hi1, rfl, hk, hB⟩ := hrel
    by_cases hlt : i < 15
    · have hlt' : (i : Int) < 15 := by omega
      have c1 := hB.wd.2 i hlt
      obtain ⟨pb', hpe, _, c2⟩ := hB.st 0 p0 hp0
      cases hpe
      have eW : (str (wordL i)).toList = wordL i := str_toList _
      have eP : (str p0).toList = p0 := str_toList _
      have KY := Lib.hid (fun h => KwP.yes hlt h (p := p0))
      have KN := Lib.hid (fun h => hk.no h)
      have HB := Lib.hid hB
      clear hk hB
      by_cases he : wordL i = p0
      · have hq : ((str (wordL i)).toList == (str p0).toList) = true := by rw [eW, eP, he]; simp
        have HK := Lib.hid (KY.out he)
        clear eW eP he KY KN
        generalize str (wordL i) = s1 at *
        generalize str p0 = s2 at *
        go_wp2_with fail
        go_quiet (fail)
        rename_i nq
        have hB2 := HB.out.fresh (Mem.drawn _ nq)
        generalize wr.drewN nq = W at *
        obtain ⟨x0, x1, x2, x3, x4, x5, x6, xz⟩ := hB2.box.seven
        unfold kE at x0 x1 x2 x3 x4 x5 x6
        simp only at x0 x1 x2 x3 x4 x5 x6
        have hB3 := Lib.hid (hB2.grown (g' := kE ((i : Int) + 1)) (one_grown W gb 0 (.int .i64 ((i : Int) + 1))) hgt n1 n2 (by unfold GotB; rw [set_block hB2.box 0 (.int .i64 ((i : Int) + 1))]; rfl))
        clear HB c1 c2 hB2
        go_wp2_with fail
        go_roundw
        case rel => exact ⟨i + 1, _, by omega, by go_num, HK.out, hB3.out⟩
        case measure => simp [intOf]; omega
      · have hq : ((str (wordL i)).toList == (str p0).toList) = false := by rw [eW, eP]; simpa using he
        have HK := Lib.hid (KN.out he)
        clear eW eP he KY KN
        generalize str (wordL i) = s1 at *
        generalize str p0 = s2 at *
        go_wp2_with fail
        go_quiet (fail)
        rename_i nq
        have hB2 := Lib.hid (HB.out.fresh (Mem.drawn _ nq))
        clear HB c1 c2
        go_wp2_with fail
        go_roundw
        case rel => exact ⟨i + 1, k, by omega, by go_num, HK.out, hB2.out⟩
        case measure => simp [intOf]; omega
    · obtain rfl : i = 15 := by omega
      have hkk := hk.end_
      subst hkk
      clear hk
      generalize kindOf p0 = k at *
      obtain ⟨x0, x1, x2, x3, x4, x5, x6, xz⟩ := hB.box.seven
      obtain ⟨y0, y1, y2, y3, y4, y5, y6, yz⟩ := hB.res.seven
      unfold kE at x0 x1 x2 x3 x4 x5 x6
      unfold Got.zero Ev.zero at y0 y1 y2 y3 y4 y5 y6
      simp only at x0 x1 x2 x3 x4 x5 x6 y0 y1 y2 y3 y4 y5 y6
      have FK := Lib.hid (FO.out k)
      unfold IsS at FK
      have hfs := str_size (form k)
      have hfd := Lib.hid (str_list (form k))
      have hff := form_short k
      obtain ⟨hfl, _, _⟩ := form_ok k
      by_cases hbad : k = 0 ∨ n ≠ (form k).length + 1
      · have hTb : Hid (T = ⟨Ev.zero, 11⟩) := Lib.hid (by rw [HD.out]; unfold oneQ; rw [if_pos (by rw [← hn'.out]; exact hbad)])
        have hg2 : (k == 0) = true ∨ ((k == 0) = false ∧ ((n : Int) != ((str (form k)).size : Int) + 1) = true) := by
          by_cases h0 : k = 0
          · exact .inl (by simpa using h0)
          · refine .inr ⟨by simpa using h0, ?_⟩
            rcases hbad with h | h
            · exact absurd h h0
            · rw [hfs]; simp; omega
        have HB := Lib.hid hB
        clear hB hbad hfl
        generalize str (form k) = F at *
        obtain ⟨F1, F2⟩ := got_end (g := ⟨Ev.zero, 11⟩) HB.out.be (Nat.le_refl _) HB.out.res (show Alike ⟨Ev.zero, 11⟩ T by rw [hTb.out]; exact Alike.refl _)
        have G := Lib.hid F2.seven
        replace F1 := Lib.hid F1
        unfold put7 Ev.zero at F1 G
        simp only [show ((0 : Nat) : Int) = 0 from rfl] at F1 G
        clear HB F2 hTb
        rcases hg2 with h0 | ⟨h0, h2⟩
        all_goals
          go_wp2_with (go_at_call 29; refine (FK.out _).mono ?_; rintro e w3 ⟨rfl, hw⟩; replace hw := hw.symm; subst hw)
          obtain ⟨z0, z1, z2, z3, z4, z5, z6, _⟩ := G.out
          have F3 := F1.out
          clear G F1
          generalize World.setCell _ ⟨w.heap.size, 6, none⟩ _ = WF at *
          refine bodyPost_ret (v := gotV ⟨Ev.zero, 11⟩) (by simp [results, Tryd.results23, go_sem, gotV, gotC, Ev.zero, z0, z1, z2, z3, z4, z5, z6]) rfl ?_
          exact F3
      · have hk0 : k ≠ 0 := fun h => hbad (.inl h)
        have hnn : n = (form k).length + 1 := by
          apply Classical.byContradiction
          intro h
          exact hbad (.inr h)
        have g1 : (k == 0) = false := by simpa using hk0
        have g2 : ((n : Int) != ((str (form k)).size : Int) + 1) = false := by rw [hfs]; simp; omega
        have st : Hid (OfI (form k) T w gb pb wb L (.int .i64 0) wr) := Lib.hid ⟨0, kE k, kE k, Nat.zero_le _, rfl, Alike.refl _, Lib.hid (by
          rw [HD.out]
          unfold oneQ
          rw [if_neg (by rw [← hn'.out]; exact hbad), List.drop_zero, List.drop_zero]
          rfl), hB⟩
        have hfs2 := Lib.hid hfs
        clear hB hbad
        have hfl' := Lib.hid hfl
        clear hfl
        generalize form k = fs at *
        generalize str fs = F at *
        have hff' : F.size ≤ 3 := by omega
        go_wp2_with (go_at_call 29; refine (FK.out _).mono ?_; rintro e w3 ⟨rfl, hw⟩; replace hw := hw.symm; subst hw)
        clear x0 x1 x2 x3 x4 x5 x6 xz y0 y1 y2 y3 y4 y5 y6 yz FK
        go_loopw [8] (fun t wr => OfI fs T w gb pb wb L t wr) (fun t _ => F.size - (intOf t).toNat)
        case atStart => exact st.out
        case round =>
          clear st
          obtain ⟨i, g, g', hi, rfl, ha, hgo, hB⟩ := hrel
          by_cases hlt2 : i < F.size
          · have hlt3 : (i : Int) < (F.size : Int) := by omega
            obtain ⟨f, hf⟩ : ∃ f, F[i] = f := ⟨_, rfl⟩
            have hat : fs[i]? = some f := by rw [← hfd.out, Mask.data_at F i hlt2, hf]
            have hfl3 := hfl'.out f (List.mem_of_getElem? hat)
            obtain ⟨s, hs⟩ : ∃ s, L[i + 1]? = some s := ⟨_, List.getElem?_eq_getElem (by rw [← hn'.out]; omega)⟩
            have hsl1 := hsl s (List.mem_of_getElem? hs)
            have hgo2 := hgo.out
            rw [show fs.drop i = f :: fs.drop (i + 1) by
              rw [List.drop_eq_getElem_cons (show i < fs.length by omega)]
              congr 1
              exact (List.getElem?_eq_some_iff.1 hat).2, show L.tail.drop i = s :: L.tail.drop (i + 1) by
              rw [← List.drop_one, List.drop_drop, List.drop_drop, show 1 + i = i + 1 by omega, show 1 + (i + 1) = (i + 1) + 1 by omega, List.drop_eq_getElem_cons (show i + 1 < L.length by rw [← hn'.out]; omega)]
              congr 1
              exact (List.getElem?_eq_some_iff.1 hs).2] at hgo2
            have hgo3 : Hid (fields MK (field MK g f s) (fs.drop (i + 1)) (L.tail.drop (i + 1)) = T) := Lib.hid hgo2
            have FD := Lib.hid (fun (w : World) => docField g' f hfl3 s (by omega) w)
            have NX : Hid (∀ g2 W, Alike g2 (field MK g' f s) → OnB w W gb pb wb L g2 → OfI fs T w gb pb wb L (.int .i64 ((i : Int) + 1)) W) := Lib.hid (fun g2 W h1 h2 => ⟨i + 1, _, g2, by omega, by go_num, h1.trans (ha.field f s), hgo3, h2⟩)
            clear hgo hgo2 hgo3 ha hat hfl3
            obtain ⟨i1, hi1⟩ : ∃ i1, i1 = i + 1 := ⟨_, rfl⟩
            have e1 : IntKind.i64.wrap ((i : Int) + 1) = (i1 : Int) := by rw [IntKind.wrap_i64]; omega
            have e1' : (i : Int) + 1 = (i1 : Int) := by omega
            have e2 : (i1 : Int) < (n : Int) := by omega
            have e3 : (0 : Int) ≤ (i1 : Int) := by omega
            have e4 : i1 < n := by omega
            rw [e1'] at NX
            rw [← hi1] at hs
            clear e1'
            have hi1' := Lib.hid hi1
            clear hi1
            have hBd : OnB w wr.drew gb pb wb L g' := hB.fresh ⟨rfl, rfl, rfl, Nat.le_refl _, fun _ _ => rfl⟩
            obtain ⟨pb', hpe, _, cs⟩ := hBd.st i1 s hs
            cases hpe
            obtain ⟨x0, x1, x2, x3, x4, x5, x6, xz⟩ := hBd.box.seven
            obtain ⟨⟨k', a', b', n', m', s'⟩, bad'⟩ := g'
            simp only at x0 x1 x2 x3 x4 x5 x6
            unfold gotV gotC at FD
            simp only at FD
            have BD := Lib.hid hBd
            have PT := Lib.hid (fun (W : World) (g1 g2 : Got) (h : OnB w W gb pb wb L g1) => (show OnB w (put7 W gb g2) gb pb wb L g2 from h.grown (put7_grown W gb g2) hgt n1 n2 (put7_block h.box g2)))
            clear hB hBd
            generalize field MK ⟨⟨k', a', b', n', m', s'⟩, bad'⟩ f s = TF at *
            generalize str s = ss at *
            go_upto_region 15 with fail
            go_region_with (go_at_call 36; refine (FD.out _).mono ?_; rintro e w4 ⟨⟨⟨k2, a2, b2, n2', m2, s2⟩, bad2⟩, rfl, hal, hq⟩; unfold gotV gotC; have B4 := BD.out.fresh hq; have P4 := PT.out _ _ ⟨⟨k2, a2, b2, n2', m2, s2⟩, bad2⟩ B4; obtain ⟨z0, z1, z2, z3, z4, z5, z6, zz⟩ := B4.box.seven)
            all_goals
              have FX := NX.out _ _ hal P4
              go_wp2_with fail
              go_roundw
              case rel => exact FX
              case measure =>
                have := hi1'.out
                simp [intOf]
                omega
          · obtain rfl : i = F.size := by omega
            have hT3 : Hid (g = T) := Lib.hid (by
              have := hgo.out
              rw [List.drop_eq_nil_of_le (by omega)] at this
              cases hL : L.tail.drop F.size <;> (rw [hL] at this; exact this))
            have ha2 : Alike g' T := by rw [← hT3.out]; exact ha
            obtain ⟨F1, F2⟩ := got_end hB.be (Nat.le_refl _) hB.res ha2
            obtain ⟨x0, x1, x2, x3, x4, x5, x6, xz⟩ := hB.box.seven
            obtain ⟨y0, y1, y2, y3, y4, y5, y6, yz⟩ := hB.res.seven
            have G := Lib.hid F2.seven
            replace F1 := Lib.hid F1
            obtain ⟨⟨k', a', b', n', m', s'⟩, bad'⟩ := g'
            unfold put7 at F1 G
            unfold Got.zero Ev.zero at *
            simp only at *
            clear hB F2 hT3 hgo ha ha2
            go_wp2_with fail
            obtain ⟨z0, z1, z2, z3, z4, z5, z6, _⟩ := G.out
            have F3 := F1.out
            clear G F1
            generalize World.setCell _ ⟨w.heap.size, 6, none⟩ _ = WF at *
            refine bodyPost_ret (v := .agg #[.int .i64 k', .int .i64 a', .int .i64 b', .int .i64 n', .int .i64 m', .int .u64 (s' : Int), .int .i64 bad']) (by simp [results, Tryd.results23, go_sem, z0, z1, z2, z3, z4, z5, z6]) rfl ?_
            exact F3
end Go.Proofs.YtikdhfedidknpaaDoor.Event
