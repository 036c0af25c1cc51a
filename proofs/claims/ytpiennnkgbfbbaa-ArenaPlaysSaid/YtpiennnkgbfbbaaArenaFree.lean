/- What Free of package arena does. Conditions: none. -/
import Derived.Test.YtpiennnkgbfbbaaArenaPut
import Derived.Deep.RegionLaw
import Derived.Deep.RegionHeld3
import Derived.Deep.DrawnRows
import Derived.Lib.Hide
namespace Go.Proofs.Ytpiennnkgbfbbaa.Arena
open Go.ChangeShapes Go.WideShapes Go.ChangeAt Go.RowKit
set_option linter.unusedVariables false
set_option linter.unusedSimpArgs false
attribute [local go_sem ↓] Go.wp_at_zero Go.wp_at_succ

def St.free (st : St) (i g : Int) : St := if st.names i g then { st with pl := st.pl.set i.toNat ⟨0, false, g + 1⟩, fr := st.fr ++ [i.toNat] } else st
def IsFree (x n : Int) (st : St) (b : Nat) (O : Nat → Prop) (w : World) : Ending → World → Prop := Did (.tuple #[.int .i64 x, .int .i64 n]) st b O w

theorem free_nil (w : World) (i g : Int) : Calls Try.prog 19 #[.pointer none, .agg #[.int .i64 i, .int .i64 g]] w (IsTwo 0 2 w) := by
  have hg := Below.refl w.heap.size w
  go_enter Try.func19, Try.ntmps19
  go_wp2_with (go_at_call 15; refine (get_nil _ _ _).mono ?_; rintro e w1 ⟨rfl, hg1⟩; replace hg := fresh_trans (hg.alloc (Nat.le_refl _) _) hg1; clear hg1)
  go_ret2
  exact ⟨rfl, hg⟩

theorem free_none (w : World) (b : Nat) (O : Nat → Prop) (st : St) (i g : Int) (h : Pool w b O st) (h1 : st.pl.length ≤ 4096) (hO : ∀ k, O k → k < w.heap.size) (hn : st.names i g = false) :
    Calls Try.prog 19 #[.pointer (some ⟨b, 0, none⟩), .agg #[.int .i64 i, .int .i64 g]] w (IsFree 0 2 st b O w) := by
  have C : Hid _ := fun w h => get w b O st i g h h1
  rw [show st.thing i g = 0 by simp [St.thing, hn], show st.err i g = 2 by simp [St.err, hn]] at C
  have hg := Below.refl w.heap.size w
  go_enter Try.func19, Try.ntmps19
  go_wp2_with (go_at_call 15; refine (C.out _ (h.fresh ((Below.refl _ w).alloc (Nat.le_refl _) _))).mono ?_; rintro e w1 ⟨rfl, hg1⟩; replace hg := fresh_trans (hg.alloc (Nat.le_refl _) _) hg1; clear hg1)
  go_ret2
  exact ⟨rfl, h.fresh hg, Same.of hg hO⟩

theorem set_free {l : List Pl} {k : Nat} {g : Int} (hk : k < l.length) : cellsP (l.set k ⟨0, false, g⟩) = (((cellsP l).set (k * 3) (.int .i64 0)).set (k * 3 + 1) (.bool false)).set (k * 3 + 2) (.int .i64 g) := cellsP_set hk

theorem cellsI_append (a : List Nat) (k : Nat) : cellsI (a ++ [k]) = cellsI a ++ [.int .i64 (k : Int)] := by simp [cellsI]
theorem free_end {w w1 W3 w4 : World} {b k : Nat} {O : Nat → Prop} {st : St} {g : Int} {vp vf : Value} {gf cf : Nat} {o : Obj} (hk : k < st.pl.length)
    (F : Hid (Parts W3 b (With O w.heap.size) st.room vp vf st.pl.length ((((cellsP st.pl).set (k * 3) (.int .i64 0)).set (k * 3 + 1) (.bool false)).set (k * 3 + 2) (.int .i64 g)) st.fr.length (cellsI st.fr) ∧ Same (With O w.heap.size) w1 W3))
    (hgrow : (W3.alloc o).drew.grownBy w4 vf.ownBlock) (hown : w4.ownsRow 0 3 1 (.slice (some ⟨gf, 0, none⟩) (st.fr.length + 1) cf) (st.fr.length + 1) (cellsI st.fr ++ [.int .i64 (k : Int)])) (hat : vf.ownBlock = some gf ∨ gf = W3.heap.size + 1)
    (hs : Same O w w1) (hO : ∀ k, O k → k < w.heap.size) :
    Pool (w4.setCell ⟨b, 2, none⟩ (.slice (some ⟨gf, 0, none⟩) (st.fr.length + 1) cf)) b O { st with pl := st.pl.set k ⟨0, false, g⟩, fr := st.fr ++ [k] } ∧ Same O w (w4.setCell ⟨b, 2, none⟩ (.slice (some ⟨gf, 0, none⟩) (st.fr.length + 1) cf)) := by
  obtain ⟨hP, h3⟩ := F
  have hP1 : Parts W3 b O st.room vp vf st.pl.length _ st.fr.length (cellsI st.fr) := ⟨hP.blk, fun h => hP.out (.inl h), hP.pl.other fun i hi h => hP.pl.2 i hi (.inl h), hP.fr.other fun i hi h => hP.fr.2 i hi (.inl h)⟩
  have hO3 : ∀ k, O k → k < W3.heap.size := fun i hi => Nat.lt_of_lt_of_le (hO i hi) (hs.trans h3.without).size
  refine ⟨((hP1.alloc o).drew.endF hgrow hown (fun i hi => Nat.lt_succ_of_lt (hO3 i hi)) (own_none hat)).pool (st := { st with pl := st.pl.set k ⟨0, false, g⟩, fr := st.fr ++ [k] }) (by simp) (set_free hk) (by simp) (cellsI_append _ _), ?_⟩
  exact (((hs.trans h3.without).alloc hO3 o).drew.grown hgrow (fun i hi => by simpa using Nat.lt_succ_of_lt (hO3 i hi)) hP1.fr.2).setCell hP1.out _

theorem free_some (w : World) (b : Nat) (O : Nat → Prop) (st : St) (k : Nat) (q : Pl) (h : Pool w b O st) (h1 : st.pl.length ≤ 4096) (h2 : st.fr.length ≤ 4096) (hO : ∀ k, O k → k < w.heap.size) (hq : st.pl[k]? = some q) (hf : q.full = true) (hg1 : -9223372036854775808 ≤ q.gen) (hg2 : q.gen < 9223372036854775807) :
    Calls Try.prog 19 #[.pointer (some ⟨b, 0, none⟩), .agg #[.int .i64 k, .int .i64 q.gen]] w (IsFree q.thing 0 { st with pl := st.pl.set k ⟨0, false, q.gen + 1⟩, fr := st.fr ++ [k] } b O w) := by
  have hn : st.names k q.gen = true := by simp [St.names, St.at, hq, hf]
  have C : Hid _ := fun w h => get w b O st k q.gen h h1
  rw [show st.thing k q.gen = q.thing by simp [St.thing, hn, St.at, hq], show st.err k q.gen = 0 by simp [St.err, hn]] at C
  have hk : k < st.pl.length := (List.getElem?_eq_some_iff.1 hq).1
  have hk1 : (k : Int) < st.pl.length := by omega
  have hg := Below.refl w.heap.size w
  go_enter Try.func19, Try.ntmps19
  go_wp2_with (go_at_call 15; refine (C.out _ (h.fresh ((Below.refl _ w).alloc (Nat.le_refl _) _))).mono ?_; rintro e w1 ⟨rfl, hg1⟩; obtain ⟨h0, h1'⟩ := two hg1 rfl; replace hg := fresh_trans (hg.alloc (Nat.le_refl _) _) hg1; clear hg1; replace h := h.with.fresh hg)
  obtain ⟨vp, vf, hP⟩ := h.parts
  obtain ⟨c0, c1, c2, fz⟩ := Pool.cells hP.blk
  obtain ⟨gp, cp, rfl, k0, k1, k2⟩ := hP.pl.places hq
  have z0 := hP.pl.1.frozenAt (k * 3)
  have z1 := hP.pl.1.frozenAt (k * 3 + 1)
  have z2 := hP.pl.1.frozenAt (k * 3 + 2)
  clear C hn
  go_region
  have hP3 := (((hP.place (k * 3) (.int .i64 0)).place (k * 3 + 1) (.bool false)).place (k * 3 + 2) (.int .i64 (q.gen + 1))).drew
  have hs3 := (((hP.place (k * 3) (.int .i64 0)).place (k * 3 + 1) (.bool false)).placeSame ((hP.place (k * 3) (.int .i64 0)).placeSame (hP.placeSame (Same.refl _ w1) (k * 3) (.int .i64 0)) (k * 3 + 1) (.bool false)) (k * 3 + 2) (.int .i64 (q.gen + 1))).drew
  clear c0 c1 c2 fz k0 k1 k2 z0 z1 z2 hP
  generalize (((w1.setCell ⟨gp, k * 3, none⟩ (.int .i64 0)).setCell ⟨gp, k * 3 + 1, none⟩ (.bool false)).setCell ⟨gp, k * 3 + 2, none⟩ (.int .i64 (q.gen + 1))).drew = W3 at *
  have b0 : W3.cell? ⟨w.heap.size, 0, none⟩ = some (.int .i64 (k : Int)) := (World.cell?_of_block (hs3.block _ (.inr rfl))).trans h0
  obtain ⟨c0, c1, c2, fz⟩ := Pool.cells hP3.blk
  obtain ⟨af, cf, ef, _⟩ := hP3.fr.shape
  rw [ef] at c2
  have d2 := cell_alloc c2
  obtain ⟨i0, hi, hz0, hz1, hz2⟩ := info_parts infoI
  have F : Hid (Parts W3 b (With O w.heap.size) st.room _ vf _ _ _ _ ∧ Same (With O w.heap.size) w1 W3) := ⟨hP3, hs3⟩
  have hF := fun o => Lib.hid (hP3.alloc o).fr.1
  clear h hP3 hs3 h0 h1' c0 c1
  go_wp2
  go_region_law ((refine step_append_lies _ (by rfl) (.tmp 33) (.tmp 36) 28 (by rfl) 0 3 i0 _ 1 8 Try.underlying28 hi hz0 hz1 hz2 rfl (by decide) vf st.fr.length (cellsI st.fr) (by rw [ef]; rfl) (hF _).out ⟨W3.heap.size, 0, none⟩ 1 1 [.int .i64 (k : Int)] (by rfl) rfl (World.news_of_block (heap_alloc_new W3 _)) (by simp [Value.oneCell']) (by decide) (by simp only [maxLen]; omega) (by omega) (Nat.zero_le _) (W3.heap.size + 1) (by simp) ?_; intro g cap w4 hown hgrow hat hlt; obtain ⟨m0, m1, m2, mz⟩ := Pool.cells ((F.out.1.alloc _).drew.grownF hgrow).1))
  all_goals
    go_wp2
    go_ret2
    exact ⟨rfl, free_end hk F hgrow hown hat (Same.of hg hO) hO⟩
end Go.Proofs.Ytpiennnkgbfbbaa.Arena
