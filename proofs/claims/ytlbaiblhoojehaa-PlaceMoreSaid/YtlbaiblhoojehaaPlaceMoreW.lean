/- The walk of PlaceMore. Conditions: each argument is a number of its kind; a slice has room for what it holds. -/
import Derived.Test.YtlbaiblhoojehaaPlaceLawsC
import Derived.Deep.OwnRows
import Derived.Laws.MakeOwn
import Derived.Deep.DeepCutAuto
import Derived.Deep.CutBlock
namespace Go.Proofs.Ytlbaiblhoojehaa.Place
open Go.ChangeShapes Go.WideShapes Go.ChangeAt Go.RowKit Load
set_option linter.unusedVariables false
set_option linter.unusedSimpArgs false
attribute [local irreducible] Go.wpQuiet

/-- A block of N bools of the call's own. -/
def Blk (g N : Nat) (F : Nat → Bool) (w : World) : Prop := ∃ arr : Array Value, w.heap[g]? = some (.cells arr 4 (0, 0)) ∧ arr.size = N ∧ ∀ j, j < N → arr[j]? = some (.bool (F j))
theorem Blk.lt {g N : Nat} {F : Nat → Bool} {w : World} (h : Blk g N F w) : g < w.heap.size := by obtain ⟨arr, h, -⟩ := h; exact lt_of h
theorem Blk.cell {g N : Nat} {F : Nat → Bool} {w : World} (h : Blk g N F w) {j : Nat} (hj : j < N) : w.cell? ⟨g, j, none⟩ = some (.bool (F j)) := by
  obtain ⟨arr, h, -, ha⟩ := h
  rw [cell_of_row w g _ _ _ _ h]; exact ha j hj
theorem Blk.free {g N : Nat} {F : Nat → Bool} {w : World} (h : Blk g N F w) (j : Nat) : w.frozen? ⟨g, j, none⟩ = false := by
  obtain ⟨arr, h, -, ha⟩ := h
  exact frozen_of_row w g j _ _ h
theorem Blk.set {g N : Nat} {F : Nat → Bool} {w : World} (h : Blk g N F w) {j : Nat} (b : Bool) {G : Nat → Bool} (hG : ∀ i, i < N → G i = if i = j then b else F i) : Blk g N G (w.setCell ⟨g, j, none⟩ (.bool b)) := by
  obtain ⟨arr, h, hs, ha⟩ := h
  refine ⟨_, heap_setCell_same w g j arr _ (.bool b) h, by simpa using hs, fun i hi => ?_⟩
  rw [Array.getElem?_setIfInBounds, hG i hi]
  by_cases e : j = i
  · subst e; simp [hs, hi]
  · rw [if_neg e, if_neg (fun x => e x.symm)]; exact ha i hi
theorem Blk.fresh {g N : Nat} {F : Nat → Bool} {w w' : World} (h : Blk g N F w) (hg : Below w.heap.size w w') : Blk g N F w' := by
  obtain ⟨arr, h1, h2⟩ := h
  exact ⟨arr, (hg.block g (lt_of h1)).trans h1, h2⟩
theorem Blk.bs {g N : Nat} {F : Nat → Bool} {w : World} (h : Blk g N F w) : Bs (some ⟨g, 0, none⟩) N F w := fun j hj => ⟨g, 0, rfl, h.lt, by rw [Nat.zero_add]; exact h.cell hj⟩
theorem blk_new (N : Nat) (w : World) : Blk w.heap.size N (fun _ => false) (w.alloc (.cells (madeCells #[Value.bool false] N) 4)) :=
  ⟨_, heap_alloc_new w _, size_madeCells _ _, fun j hj => by simp [madeCells, hj, Nat.mod_one]⟩
theorem infoB : (Try.prog.info? 4).map (fun i => (i.zero, i.size, i.bytes)) = some (some (.bool false), 1, 1) := by kernel_rfl

/-- One more P that runs. -/
def plus (r : Nat) (R : Nat → Bool) (k j : Nat) : Bool := if j = k then true else decide (j < r) && R j
theorem rest_plus {z : Nat → Int} {n r m k N : Nat} {R : Nat → Bool} (h1 : r ≤ N) (h2 : k < N) (p : Nat) : rest z n N (plus r R k) m p = (rest z n r R m p && !decide (p = k)) := by
  unfold rest busy plus
  by_cases h : p = k
  · subst h; simp [h2]
  · rw [if_neg h, decide_eq_false h, Bool.not_false, Bool.and_true]
    by_cases h3 : p < r
    · rw [decide_eq_true (show p < N by omega), decide_eq_true h3, Bool.true_and]
    · rw [decide_eq_false h3]; simp
theorem rest_bare {z : Nat → Int} {n r m : Nat} {R F : Nat → Bool} {p : Nat} (h : rest z n r R m p = true) : rest z n 0 F m p = true := by
  obtain ⟨h1, h2, -⟩ := rest_can h
  unfold rest busy; rw [h1, h2]; simp
theorem mores {z : Nat → Int} {n r m k N : Nat} {R F : Nat → Bool} {a b c : Int} (h1 : r ≤ N) (h2 : k < N) (ha : low (rest z n r R m) n = a) (hb : low (rest z n N (plus r R k) m) n = b) (hc : low (rest z n 0 F m) n = c) :
    (a < 0 ∧ b = a ∧ ¬ b = k) ∨ (0 ≤ a ∧ 0 ≤ c ∧ c ≤ a ∧ ¬ b = k ∧ (b < 0 ∨ a ≤ b) ∧ (a = k ∨ a = b)) := by
  have hbk : ¬ b = k := by
    rcases low_bd (rest z n N (plus r R k) m) n with ⟨e, -⟩ | ⟨q, e, hq, hr, -⟩
    · omega
    · rw [rest_plus h1 h2] at hr
      simp at hr
      omega
  rcases low_bd (rest z n r R m) n with ⟨e, hno⟩ | ⟨p, e, hp, hr, hfirst⟩
  · left
    have : low (rest z n N (plus r R k) m) n = -1 := low_none fun j hj => by rw [rest_plus h1 h2, hno j hj]; rfl
    omega
  · right
    have hcp : 0 ≤ c ∧ c ≤ a := by
      rcases low_bd (rest z n 0 F m) n with ⟨e', hno⟩ | ⟨q, e', hq, hq1, hq2⟩
      · have h3 := hno p hp
        rw [rest_bare hr] at h3; cases h3
      · by_cases h : p < q
        · have h3 := hq2 p h
          rw [rest_bare hr] at h3; cases h3
        · omega
    refine ⟨by omega, hcp.1, hcp.2, hbk, ?_⟩
    by_cases hpk : p = k
    · refine ⟨?_, .inl (by omega)⟩
      rcases low_bd (rest z n N (plus r R k) m) n with ⟨e', -⟩ | ⟨q, e', hq, hq1, -⟩
      · left; omega
      · right
        rw [rest_plus h1 h2] at hq1
        simp at hq1
        by_cases h : q < p
        · have h3 := hfirst q h
          rw [hq1.1] at h3; cases h3
        · omega
    · have : low (rest z n N (plus r R k) m) n = p := low_first hp (by rw [rest_plus h1 h2, hr]; simp [hpk]) fun j hj => by rw [rest_plus h1 h2, hfirst j hj]; rfl
      exact ⟨.inr (by omega), .inr (by omega)⟩

set_option maxHeartbeats 4000000 in
theorem moreLaw (v : Option Addr) (n cap : Nat) (u : Option Addr) (r rc : Nat) (z : Nat → Int) (R : Nat → Bool) (m : Nat) (p : Int) (w : World) (p0 : 0 ≤ p) (p1 : p ≤ 255) (hm : m < 18446744073709551616) (hroom : r ≤ 140737488351232) (hn : n ≤ 9223372036854775807) (hr : r ≤ 9223372036854775807) (h : Cell v n cap u r z R w) :
    Calls Try.prog 8 #[.slice v n cap, .slice u r rc, .int .u8 p, .int .u64 m] w (Yes w) := by
  have S := Lib.hid (fun w => shown w)
  have hC := Lib.hid h
  have FW := Lib.hid (fun w (h : Cell v n cap u r z R w) => few v n cap w hn h.1.room h.1.nils)
  have IL : Hid (∀ w, Cell v n cap u r z R w → Cell v (min n 100) cap u r z R w) := Lib.hid fun w h => ⟨h.1.less (by omega), h.2⟩
  have hl : min n 100 ≤ 100 := by omega
  have hz := (h.1.less (k := min n 100) (by omega)).nums
  generalize min n 100 = l at *
  have hz0 : ∀ j, j < l → 0 ≤ z j := fun j hj => (hz j hj).1
  clear hz h
  have hg := Below.refl w.heap.size w
  obtain ⟨k, hk1, hk2⟩ : ∃ k : Nat, p % 64 = k ∧ k < 64 := ⟨(p % 64).toNat, by omega, by omega⟩
  clear hz0
  by_cases hrk : r ≤ k
  · go_enter Try.func8, Try.ntmps8
    go_upto_region 4 with (first
      | (go_at_call 9; refine (S.out _).mono ?_; rintro e ws ⟨rfl, hg1⟩; replace hC := Lib.hid (hC.out.fresh hg1); replace hg := fresh_trans hg hg1; clear hg1)
      | (go_at_call 10; refine (FW.out _ hC.out).mono ?_; rintro e wf ⟨rfl, hw⟩; subst hw; replace hC := Lib.hid (IL.out _ hC.out)))
    have MK := ((by have := run_make_row' (P := Try.prog) 23 4 (.bool false) 1 Try.underlying23 infoB rfl .i64 .i64 ((k + 1)) (by omega) (by omega) ws; simpa using this) : (Instr.makeSlice 23 (.int .i64 ((k : Int) + 1)) (.int .i64 ((k : Int) + 1))).run Try.prog ws = .ok (.slice (some ⟨ws.heap.size, 0, none⟩) (k + 1) (k + 1)) (ws.alloc (.cells (madeCells #[Value.bool false] (k + 1)) 4)))
    have HB0 := Lib.hid (blk_new (k + 1) ws)
    have HG0 := Lib.hid (alloc1 ws (.cells (madeCells #[Value.bool false] (k + 1)) 4))
    generalize hW0 : ws.alloc (.cells (madeCells #[Value.bool false] (k + 1)) 4) = W0 at *
    clear hW0
    go_wp2_with fail
    all_goals first | (exfalso; omega) | skip
    clear MK
    obtain ⟨g, hgz⟩ : ∃ g, ws.heap.size = g := ⟨_, rfl⟩
    rw [hgz] at HB0
    rw [hgz]
    replace hgz := Lib.hid hgz
    go_loopw [13] (fun t13 wr => ∃ i : Nat, i ≤ r ∧ t13 = .int .i64 i ∧ Blk g (k + 1) (fun j => decide (j < i) && R j) wr ∧ Below ws.heap.size ws wr) (fun i _ => r - (intOf i).toNat)
    case atStart =>
      refine ⟨0, by omega, rfl, ?_, HG0.out⟩
      have e : (fun j => decide (j < 0) && R j) = fun _ => false := by funext j; simp
      rw [e]; exact HB0.out
    case round =>
      clear HB0 HG0
      obtain ⟨i, hi, rfl, hB, hb⟩ := hrel
      have i0 : (0 : Int) ≤ i := by omega
      have hC2 := Lib.hid (hC.out.fresh hb)
      have hgs := hgz.out
      by_cases hlt : i < r
      · have h3 : (i : Int) < r := by omega
        have h4 : (i : Int) < ((k : Int) + 1) := by omega
        obtain ⟨b, o, rfl, hb1, d1⟩ := hC2.out.2 i hlt
        have k1 := hB.cell (j := i) (by omega)
        have k4 := hB.free i
        have HX := Lib.hid (show Blk g (k + 1) (fun j => decide (j < i + 1) && R j) (wr.setCell ⟨g, i, none⟩ (.bool (R i))) ∧ Below ws.heap.size ws (wr.setCell ⟨g, i, none⟩ (.bool (R i))) from
          ⟨hB.set (R i) (fun j _ => by
            by_cases e : j = i
            · subst e; simp
            · rw [if_neg e, show decide (j < i + 1) = decide (j < i) from decide_eq_decide.2 (by omega)]), hb.setCell (p := ⟨g, i, none⟩) (by simp; omega) _⟩)
        obtain ⟨x0, k1⟩ : ∃ x0, wr.cell? ⟨g, i, none⟩ = some (.bool x0) := ⟨_, k1⟩
        generalize R i = x at *
        clear hB hgs
        go_wp2_with fail
        go_roundw
        case rel => exact ⟨i + 1, by omega, by go_num, HX.out.1, HX.out.2⟩
        case measure => simp [intOf]; omega
      · have h3 : ¬ (i : Int) < r := by omega
        obtain rfl : i = r := by omega
        have h4 : (k : Int) < ((k : Int) + 1) := by omega
        have k1 := hB.cell (j := k) (by omega)
        have k4 := hB.free k
        have HX := Lib.hid (show Blk g (k + 1) (plus i R k) (wr.setCell ⟨g, k, none⟩ (.bool true)) ∧ Below ws.heap.size ws (wr.setCell ⟨g, k, none⟩ (.bool true)) from
          ⟨hB.set true (fun j _ => rfl), hb.setCell (p := ⟨g, k, none⟩) (by simp; omega) _⟩)
        obtain ⟨x0, k1⟩ : ∃ x0, wr.cell? ⟨g, k, none⟩ = some (.bool x0) := ⟨_, k1⟩
        clear hB hgs hb hC2
        generalize hV : wr.setCell ⟨g, k, none⟩ (.bool true) = V at *
        replace hV := Lib.hid hV
        go_upto_region 10 with fail
        rw [hV.out]
        clear hV k1 k4
        have hC2 := Lib.hid (hC.out.fresh HX.out.2)
        have hg2 := fresh_trans hg HX.out.2
        have IA := idles v l cap u i rc m z R V hm (by omega) hr hC2.out
        have MF := Lib.hid (mores (z := z) (R := R) (n := l) (m := m) (F := fun _ => false) (show i ≤ (k + 1) by omega) (show k < (k + 1) by omega) rfl rfl rfl)
        have HL := low_bd (rest z l 0 (fun _ => false) m) l
        have IB : Hid (∀ wx, Below V.heap.size V wx → Calls Try.prog 13 #[.slice v l cap, .slice (some ⟨g, 0, none⟩) (k + 1) (k + 1), .int .u64 m] wx (IsG (.int .i64 (low (rest z l (k + 1) (plus i R k) m) l)) wx)) := Lib.hid fun wx h =>
          idles v l cap (some ⟨g, 0, none⟩) (k + 1) (k + 1) m z (plus i R k) wx hm (by omega) (by omega) ⟨hC2.out.1.fresh h, (HX.out.1.fresh h).bs⟩
        have IC : Hid (∀ wx, Below V.heap.size V wx → Calls Try.prog 13 #[.slice v l cap, .slice none 0 0, .int .u64 m] wx (IsG (.int .i64 (low (rest z l 0 (fun _ => false) m) l)) wx)) := Lib.hid fun wx h =>
          idles v l cap none 0 0 m z (fun _ => false) wx hm (by omega) (by omega) ⟨hC2.out.1.fresh h, no_bs wx⟩
        have MY0 := Lib.hid (fun (p : Nat) w => refMay v l cap m p w hm)
        have HT : Hid (∀ j, rest z l 0 (fun _ => false) m j = (can l m j && (z j == 0))) := Lib.hid fun j => by unfold rest busy; simp
        generalize low (rest z l i R m) l = a at *
        generalize low (rest z l (k + 1) (plus i R k) m) l = b at *
        generalize low (rest z l 0 (fun _ => false) m) l = c at *
        generalize rest z l 0 (fun _ => false) m = T at *
        replace HL := Lib.hid HL
        clear HX
        go_wp2_with fail
        refine IA.mono ?_
        rintro e w1 ⟨rfl, hg1⟩
        clear IA
        go_wp2_with fail
        refine (IB.out w1 hg1).mono ?_
        rintro e w2 ⟨rfl, hg3⟩
        replace hg1 := fresh_trans hg1 hg3
        clear hg3 IB
        go_wp2_with fail
        refine (IC.out w2 hg1).mono ?_
        rintro e w3 ⟨rfl, hg3⟩
        replace hg1 := fresh_trans hg1 hg3
        clear hg3 IC
        have hC3 := Lib.hid (hC2.out.fresh hg1)
        have hg4 := fresh_trans hg2 hg1
        clear hg1 hg2 hC2
        go_wp2_with fail
        go_loopw [17, 18] (fun t17 t18 wr => ∃ (j : Nat) (nv : Int), j ≤ l ∧ t17 = .int .i64 nv ∧ t18 = .int .i64 j ∧ ((nv = -1 ∧ ∀ q, q < j → T q = false) ∨ (0 ≤ nv ∧ nv = c)) ∧ wr = w3) (fun _ i _ => l - (intOf i).toNat)
        case atStart => exact ⟨0, -1, by omega, rfl, rfl, .inl ⟨rfl, fun q hq => by omega⟩, rfl⟩
        case round =>
          obtain ⟨j, nv, hj, rfl, rfl, hnv, rfl⟩ := hrel
          have j0 : (0 : Int) ≤ j := by omega
          by_cases hgo : j < l ∧ nv < 0
          · obtain ⟨hjl, hn0⟩ := hgo
            have h3 : (j : Int) < l := by omega
            have hno : Hid (∀ q, q < j → T q = false) := Lib.hid (by rcases hnv with ⟨-, h⟩ | ⟨h, -⟩; exact h; omega)
            obtain rfl : nv = -1 := by rcases hnv with ⟨h, -⟩ | ⟨h, -⟩ <;> omega
            clear hnv hn0
            have MY := Lib.hid (MY0.out j)
            have E := Lib.hid (HT.out j)
            obtain ⟨bb, oo, rfl, hb1, d1⟩ := hC3.out.1.lies j hjl
            cases hcj : can l m j
            · rw [hcj] at MY E
              have ET : Hid (T j = false) := Lib.hid E.out
              clear hcj E
              generalize z j = zj at *
              go_wp2_with (go_at_call 15; refine (MY.out _).mono ?_; rintro e w1 ⟨rfl, hw⟩; replace hw := hw.symm; subst hw)
              go_roundw
              case rel => exact ⟨j + 1, -1, by omega, rfl, by go_num, .inl ⟨rfl, fun q hq => by rcases (by omega : q < j ∨ q = j) with h | rfl; exact hno.out q h; exact ET.out⟩, by first | rfl | trivial⟩
              case measure => simp [intOf]; omega
            · rw [hcj] at MY E
              clear hcj
              by_cases h0 : z j = 0
              · rw [h0] at d1
                have EC : Hid ((j : Int) = c) := Lib.hid (by
                  rcases HL.out with ⟨h, h'⟩ | ⟨q, h, hq, hq1, hq2⟩
                  · have := h' j hjl; rw [E.out, h0] at this; cases this
                  · have h5 : ¬ j < q := fun h6 => by have := hq2 j h6; rw [E.out, h0] at this; cases this
                    have h6 : ¬ q < j := fun h7 => by rw [hno.out q h7] at hq1; cases hq1
                    omega)
                clear E h0
                go_wp2_with (go_at_call 15; refine (MY.out _).mono ?_; rintro e w1 ⟨rfl, hw⟩; replace hw := hw.symm; subst hw)
                go_roundw
                case rel => exact ⟨j + 1, j, by omega, rfl, by go_num, .inr ⟨by omega, EC.out⟩, by first | rfl | trivial⟩
                case measure => simp [intOf]; omega
              · have ET : Hid (T j = false) := Lib.hid (by rw [E.out]; simp [h0])
                have h0' : (z j == 0) = false := by simpa using h0
                clear E
                generalize z j = zj at *
                go_wp2_with (go_at_call 15; refine (MY.out _).mono ?_; rintro e w1 ⟨rfl, hw⟩; replace hw := hw.symm; subst hw)
                go_roundw
                case rel => exact ⟨j + 1, -1, by omega, rfl, by go_num, .inl ⟨rfl, fun q hq => by rcases (by omega : q < j ∨ q = j) with h | rfl; exact hno.out q h; exact ET.out⟩, by first | rfl | trivial⟩
                case measure => simp [intOf]; omega
          · have hnc : nv = c := by
              rcases hnv with ⟨h, h'⟩ | ⟨-, h⟩
              · rcases HL.out with ⟨h1, -⟩ | ⟨q, h1, hq, hq1, -⟩
                · omega
                · rw [h' q (by omega)] at hq1; cases hq1
              · exact h
            subst hnc
            clear hnv MY0 HT HL hC3
            have MF' := MF.out
            clear MF
            rcases (by omega : ((j : Int) < l ∧ ¬ nv < 0) ∨ ¬ (j : Int) < l) with ⟨q1, q2⟩ | q1
            all_goals
              clear hgo hj
              rcases MF' with ⟨m1, rfl, m2⟩ | ⟨m1, m2, m3, m4, m5, m6⟩
              · have s1 : (b == (k : Int)) = false := by simpa using m2
                have s2 : (b != (k : Int)) = true := by simpa using m2
                go_wp2_with fail
                go_ret
                exact yes_of (by simp) hg4
              · have s1 : (b == (k : Int)) = false := by simpa using m4
                have s2 : (b != (k : Int)) = true := by simpa using m4
                by_cases h6 : a = k
                · subst h6
                  by_cases h7 : b < 0
                  · clear m5 m6
                    go_wp2_with fail
                    go_ret
                    exact yes_of (by simp) hg4
                  · have h8 : (k : Int) ≤ b := by omega
                    clear m5 m6
                    go_wp2_with fail
                    go_ret
                    exact yes_of (by simp) hg4
                · obtain rfl : a = b := by omega
                  clear m5 m6
                  go_wp2_with fail
                  go_ret
                  exact yes_of (by simp) hg4
  · go_enter Try.func8, Try.ntmps8
    go_upto_region 4 with (first
      | (go_at_call 9; refine (S.out _).mono ?_; rintro e ws ⟨rfl, hg1⟩; replace hC := Lib.hid (hC.out.fresh hg1); replace hg := fresh_trans hg hg1; clear hg1)
      | (go_at_call 10; refine (FW.out _ hC.out).mono ?_; rintro e wf ⟨rfl, hw⟩; subst hw; replace hC := Lib.hid (IL.out _ hC.out)))
    have MK := ((by have := run_make_row' (P := Try.prog) 23 4 (.bool false) 1 Try.underlying23 infoB rfl .i64 .i64 (r) (by omega) (by omega) ws; simpa using this) : (Instr.makeSlice 23 (.int .i64 (r : Int)) (.int .i64 (r : Int))).run Try.prog ws = .ok (.slice (some ⟨ws.heap.size, 0, none⟩) r r) (ws.alloc (.cells (madeCells #[Value.bool false] r) 4)))
    have HB0 := Lib.hid (blk_new r ws)
    have HG0 := Lib.hid (alloc1 ws (.cells (madeCells #[Value.bool false] r) 4))
    generalize hW0 : ws.alloc (.cells (madeCells #[Value.bool false] r) 4) = W0 at *
    clear hW0
    go_wp2_with fail
    all_goals first | (exfalso; omega) | skip
    clear MK
    obtain ⟨g, hgz⟩ : ∃ g, ws.heap.size = g := ⟨_, rfl⟩
    rw [hgz] at HB0
    rw [hgz]
    replace hgz := Lib.hid hgz
    go_loopw [13] (fun t13 wr => ∃ i : Nat, i ≤ r ∧ t13 = .int .i64 i ∧ Blk g r (fun j => decide (j < i) && R j) wr ∧ Below ws.heap.size ws wr) (fun i _ => r - (intOf i).toNat)
    case atStart =>
      refine ⟨0, by omega, rfl, ?_, HG0.out⟩
      have e : (fun j => decide (j < 0) && R j) = fun _ => false := by funext j; simp
      rw [e]; exact HB0.out
    case round =>
      clear HB0 HG0
      obtain ⟨i, hi, rfl, hB, hb⟩ := hrel
      have i0 : (0 : Int) ≤ i := by omega
      have hC2 := Lib.hid (hC.out.fresh hb)
      have hgs := hgz.out
      by_cases hlt : i < r
      · have h3 : (i : Int) < r := by omega
        have h4 : (i : Int) < (r : Int) := by omega
        obtain ⟨b, o, rfl, hb1, d1⟩ := hC2.out.2 i hlt
        have k1 := hB.cell (j := i) (by omega)
        have k4 := hB.free i
        have HX := Lib.hid (show Blk g r (fun j => decide (j < i + 1) && R j) (wr.setCell ⟨g, i, none⟩ (.bool (R i))) ∧ Below ws.heap.size ws (wr.setCell ⟨g, i, none⟩ (.bool (R i))) from
          ⟨hB.set (R i) (fun j _ => by
            by_cases e : j = i
            · subst e; simp
            · rw [if_neg e, show decide (j < i + 1) = decide (j < i) from decide_eq_decide.2 (by omega)]), hb.setCell (p := ⟨g, i, none⟩) (by simp; omega) _⟩)
        obtain ⟨x0, k1⟩ : ∃ x0, wr.cell? ⟨g, i, none⟩ = some (.bool x0) := ⟨_, k1⟩
        generalize R i = x at *
        clear hB hgs
        go_wp2_with fail
        go_roundw
        case rel => exact ⟨i + 1, by omega, by go_num, HX.out.1, HX.out.2⟩
        case measure => simp [intOf]; omega
      · have h3 : ¬ (i : Int) < r := by omega
        obtain rfl : i = r := by omega
        have h4 : (k : Int) < (i : Int) := by omega
        have k1 := hB.cell (j := k) (by omega)
        have k4 := hB.free k
        have HX := Lib.hid (show Blk g i (plus i R k) (wr.setCell ⟨g, k, none⟩ (.bool true)) ∧ Below ws.heap.size ws (wr.setCell ⟨g, k, none⟩ (.bool true)) from
          ⟨hB.set true (fun j _ => rfl), hb.setCell (p := ⟨g, k, none⟩) (by simp; omega) _⟩)
        obtain ⟨x0, k1⟩ : ∃ x0, wr.cell? ⟨g, k, none⟩ = some (.bool x0) := ⟨_, k1⟩
        clear hB hgs hb hC2
        generalize hV : wr.setCell ⟨g, k, none⟩ (.bool true) = V at *
        replace hV := Lib.hid hV
        go_upto_region 10 with fail
        rw [hV.out]
        clear hV k1 k4
        have hC2 := Lib.hid (hC.out.fresh HX.out.2)
        have hg2 := fresh_trans hg HX.out.2
        have IA := idles v l cap u i rc m z R V hm (by omega) hr hC2.out
        have MF := Lib.hid (mores (z := z) (R := R) (n := l) (m := m) (F := fun _ => false) (show i ≤ i by omega) (show k < i by omega) rfl rfl rfl)
        have HL := low_bd (rest z l 0 (fun _ => false) m) l
        have IB : Hid (∀ wx, Below V.heap.size V wx → Calls Try.prog 13 #[.slice v l cap, .slice (some ⟨g, 0, none⟩) i i, .int .u64 m] wx (IsG (.int .i64 (low (rest z l i (plus i R k) m) l)) wx)) := Lib.hid fun wx h =>
          idles v l cap (some ⟨g, 0, none⟩) i i m z (plus i R k) wx hm (by omega) (by omega) ⟨hC2.out.1.fresh h, (HX.out.1.fresh h).bs⟩
        have IC : Hid (∀ wx, Below V.heap.size V wx → Calls Try.prog 13 #[.slice v l cap, .slice none 0 0, .int .u64 m] wx (IsG (.int .i64 (low (rest z l 0 (fun _ => false) m) l)) wx)) := Lib.hid fun wx h =>
          idles v l cap none 0 0 m z (fun _ => false) wx hm (by omega) (by omega) ⟨hC2.out.1.fresh h, no_bs wx⟩
        have MY0 := Lib.hid (fun (p : Nat) w => refMay v l cap m p w hm)
        have HT : Hid (∀ j, rest z l 0 (fun _ => false) m j = (can l m j && (z j == 0))) := Lib.hid fun j => by unfold rest busy; simp
        generalize low (rest z l i R m) l = a at *
        generalize low (rest z l i (plus i R k) m) l = b at *
        generalize low (rest z l 0 (fun _ => false) m) l = c at *
        generalize rest z l 0 (fun _ => false) m = T at *
        replace HL := Lib.hid HL
        clear HX
        go_wp2_with fail
        refine IA.mono ?_
        rintro e w1 ⟨rfl, hg1⟩
        clear IA
        go_wp2_with fail
        refine (IB.out w1 hg1).mono ?_
        rintro e w2 ⟨rfl, hg3⟩
        replace hg1 := fresh_trans hg1 hg3
        clear hg3 IB
        go_wp2_with fail
        refine (IC.out w2 hg1).mono ?_
        rintro e w3 ⟨rfl, hg3⟩
        replace hg1 := fresh_trans hg1 hg3
        clear hg3 IC
        have hC3 := Lib.hid (hC2.out.fresh hg1)
        have hg4 := fresh_trans hg2 hg1
        clear hg1 hg2 hC2
        go_wp2_with fail
        go_loopw [17, 18] (fun t17 t18 wr => ∃ (j : Nat) (nv : Int), j ≤ l ∧ t17 = .int .i64 nv ∧ t18 = .int .i64 j ∧ ((nv = -1 ∧ ∀ q, q < j → T q = false) ∨ (0 ≤ nv ∧ nv = c)) ∧ wr = w3) (fun _ i _ => l - (intOf i).toNat)
        case atStart => exact ⟨0, -1, by omega, rfl, rfl, .inl ⟨rfl, fun q hq => by omega⟩, rfl⟩
        case round =>
          obtain ⟨j, nv, hj, rfl, rfl, hnv, rfl⟩ := hrel
          have j0 : (0 : Int) ≤ j := by omega
          by_cases hgo : j < l ∧ nv < 0
          · obtain ⟨hjl, hn0⟩ := hgo
            have h3 : (j : Int) < l := by omega
            have hno : Hid (∀ q, q < j → T q = false) := Lib.hid (by rcases hnv with ⟨-, h⟩ | ⟨h, -⟩; exact h; omega)
            obtain rfl : nv = -1 := by rcases hnv with ⟨h, -⟩ | ⟨h, -⟩ <;> omega
            clear hnv hn0
            have MY := Lib.hid (MY0.out j)
            have E := Lib.hid (HT.out j)
            obtain ⟨bb, oo, rfl, hb1, d1⟩ := hC3.out.1.lies j hjl
            cases hcj : can l m j
            · rw [hcj] at MY E
              have ET : Hid (T j = false) := Lib.hid E.out
              clear hcj E
              generalize z j = zj at *
              go_wp2_with (go_at_call 15; refine (MY.out _).mono ?_; rintro e w1 ⟨rfl, hw⟩; replace hw := hw.symm; subst hw)
              go_roundw
              case rel => exact ⟨j + 1, -1, by omega, rfl, by go_num, .inl ⟨rfl, fun q hq => by rcases (by omega : q < j ∨ q = j) with h | rfl; exact hno.out q h; exact ET.out⟩, by first | rfl | trivial⟩
              case measure => simp [intOf]; omega
            · rw [hcj] at MY E
              clear hcj
              by_cases h0 : z j = 0
              · rw [h0] at d1
                have EC : Hid ((j : Int) = c) := Lib.hid (by
                  rcases HL.out with ⟨h, h'⟩ | ⟨q, h, hq, hq1, hq2⟩
                  · have := h' j hjl; rw [E.out, h0] at this; cases this
                  · have h5 : ¬ j < q := fun h6 => by have := hq2 j h6; rw [E.out, h0] at this; cases this
                    have h6 : ¬ q < j := fun h7 => by rw [hno.out q h7] at hq1; cases hq1
                    omega)
                clear E h0
                go_wp2_with (go_at_call 15; refine (MY.out _).mono ?_; rintro e w1 ⟨rfl, hw⟩; replace hw := hw.symm; subst hw)
                go_roundw
                case rel => exact ⟨j + 1, j, by omega, rfl, by go_num, .inr ⟨by omega, EC.out⟩, by first | rfl | trivial⟩
                case measure => simp [intOf]; omega
              · have ET : Hid (T j = false) := Lib.hid (by rw [E.out]; simp [h0])
                have h0' : (z j == 0) = false := by simpa using h0
                clear E
                generalize z j = zj at *
                go_wp2_with (go_at_call 15; refine (MY.out _).mono ?_; rintro e w1 ⟨rfl, hw⟩; replace hw := hw.symm; subst hw)
                go_roundw
                case rel => exact ⟨j + 1, -1, by omega, rfl, by go_num, .inl ⟨rfl, fun q hq => by rcases (by omega : q < j ∨ q = j) with h | rfl; exact hno.out q h; exact ET.out⟩, by first | rfl | trivial⟩
                case measure => simp [intOf]; omega
          · have hnc : nv = c := by
              rcases hnv with ⟨h, h'⟩ | ⟨-, h⟩
              · rcases HL.out with ⟨h1, -⟩ | ⟨q, h1, hq, hq1, -⟩
                · omega
                · rw [h' q (by omega)] at hq1; cases hq1
              · exact h
            subst hnc
            clear hnv MY0 HT HL hC3
            have MF' := MF.out
            clear MF
            rcases (by omega : ((j : Int) < l ∧ ¬ nv < 0) ∨ ¬ (j : Int) < l) with ⟨q1, q2⟩ | q1
            all_goals
              clear hgo hj
              rcases MF' with ⟨m1, rfl, m2⟩ | ⟨m1, m2, m3, m4, m5, m6⟩
              · have s1 : (b == (k : Int)) = false := by simpa using m2
                have s2 : (b != (k : Int)) = true := by simpa using m2
                go_wp2_with fail
                go_ret
                exact yes_of (by simp) hg4
              · have s1 : (b == (k : Int)) = false := by simpa using m4
                have s2 : (b != (k : Int)) = true := by simpa using m4
                by_cases h6 : a = k
                · subst h6
                  by_cases h7 : b < 0
                  · clear m5 m6
                    go_wp2_with fail
                    go_ret
                    exact yes_of (by simp) hg4
                  · have h8 : (k : Int) ≤ b := by omega
                    clear m5 m6
                    go_wp2_with fail
                    go_ret
                    exact yes_of (by simp) hg4
                · obtain rfl : a = b := by omega
                  clear m5 m6
                  go_wp2_with fail
                  go_ret
                  exact yes_of (by simp) hg4
end Go.Proofs.Ytlbaiblhoojehaa.Place
