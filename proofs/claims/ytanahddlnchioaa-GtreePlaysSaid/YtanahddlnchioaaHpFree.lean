/- What Free of package arena does. Conditions: none. -/
import Derived.Test.YtanahddlnchioaaHpPut
import Derived.Deep.RegionLaw
import Derived.Deep.RegionHeld3
import Derived.Deep.DrawnRows
import Derived.Lib.Hide
namespace Go.Proofs.Ytanahddlnchioaa.Hp
open Go.ChangeShapes Go.WideShapes Go.ChangeAt Go.RowKit
set_option linter.unusedVariables false
set_option linter.unusedSimpArgs false
attribute [local go_sem ↓] Go.wp_at_zero Go.wp_at_succ

def St.free (st : St) (i g : Int) : St := if st.names i g then { st with pl := st.pl.set i.toNat ⟨0, 0, false, g + 1⟩, fr := st.fr ++ [i.toNat] } else st
def IsFree (x y n : Int) (st : St) (b : Nat) (O : Nat → Prop) (w : World) : Ending → World → Prop := Did (.tuple #[.agg #[.int .i64 x, .int .i64 y], .int .i64 n]) st b O w

theorem free_none (w : World) (b : Nat) (O : Nat → Prop) (st : St) (i g : Int) (h : Pool w b O st) (h1 : st.pl.length ≤ 4096) (hO : ∀ k, O k → k < w.heap.size) (hn : st.names i g = false) :
    Calls Try.prog 30 #[.pointer (some ⟨b, 0, none⟩), .agg #[.int .i64 i, .int .i64 g]] w (IsFree 0 0 2 st b O w) := by
  have C : Hid _ := fun w h => get w b O st i g h h1
  rw [show st.thing i g = 0 by simp [St.thing, hn], show st.tgen i g = 0 by simp [St.tgen, hn], show st.err i g = 2 by simp [St.err, hn]] at C
  go_enter Try.func30, Try.ntmps30
  go_wp2_with (go_at_call 51; refine (C.out _ (h.fresh (alloc2 _ _ _))).mono ?_; rintro e w1 ⟨rfl, hg1⟩; obtain ⟨a0, a1, a2⟩ := four hg1 rfl; have hg := fresh_trans (alloc2 _ _ _) hg1; clear hg1; obtain ⟨b0, b1, bz⟩ := box2 a2; obtain ⟨c0, c1, cz⟩ := box2a a2)
  refine bodyPost_ret (v := .tuple #[.agg #[.int .i64 0, .int .i64 0], .int .i64 2]) (by simp [results, Try.results30, go_sem, b0, b1, c0, c1]) rfl ?_
  have hs := hg.size
  have hB : Below w.heap.size w (((w1.alloc (.cells #[.int .i64 0, .int .i64 0] 34)).setCell ⟨w.heap.size + 1, 0, none⟩ (.int .i64 0)).setCell ⟨w.heap.size + 1, 1, none⟩ (.int .i64 0)) := by go_grown
  exact ⟨rfl, h.fresh hB, Same.of hB hO⟩

theorem set_free {l : List Pl} {k : Nat} {g : Int} (hk : k < l.length) : cellsP (l.set k ⟨0, 0, false, g⟩) = ((((cellsP l).set (k * 4) (.int .i64 0)).set (k * 4 + 1) (.int .i64 0)).set (k * 4 + 2) (.bool false)).set (k * 4 + 3) (.int .i64 g) := cellsP_set hk

theorem cellsI_append (a : List Nat) (k : Nat) : cellsI (a ++ [k]) = cellsI a ++ [.int .i64 (k : Int)] := by simp [cellsI]

/-- Three boxes: what Free has of its own. -/
def Own (O : Nat → Prop) (B1 B2 : Nat) : Nat → Prop := fun k => (O k ∨ k = B1 ∨ k = B1 + 1) ∨ k = B2
theorem Pool.own {w w1 : World} {b : Nat} {O : Nat → Prop} {st : St} (h : Pool w b O st) (hg : Below w.heap.size w w1) (o : Obj) : Pool (w1.alloc o) b (Own O w.heap.size w1.heap.size) st := by
  have h1 : Pool w b (Own O w.heap.size w1.heap.size) st := h.other fun k hk => by
    have := hg.size
    rcases hk with (hk | rfl | rfl) | rfl
    · exact .inl hk
    · exact .inr (Nat.le_refl _)
    · exact .inr (Nat.le_succ _)
    · exact .inr this
  exact h1.fresh (hg.alloc hg.size o)
theorem free_end {W1 W3 w4 : World} {b k B1 B2 : Nat} {O : Nat → Prop} {st : St} {g : Int} {vp vf : Value} {gf cf : Nat} {o : Obj} (hk : k < st.pl.length)
    (F : Hid (Parts W3 b (Own O B1 B2) st.room vp vf st.pl.length (((((cellsP st.pl).set (k * 4) (.int .i64 0)).set (k * 4 + 1) (.int .i64 0)).set (k * 4 + 2) (.bool false)).set (k * 4 + 3) (.int .i64 g)) st.fr.length (cellsI st.fr) ∧ Same (Own O B1 B2) W1 W3))
    (hgrow : (W3.alloc o).drew.grownBy w4 vf.ownBlock) (hown : w4.ownsRow 0 3 1 (.slice (some ⟨gf, 0, none⟩) (st.fr.length + 1) cf) (st.fr.length + 1) (cellsI st.fr ++ [.int .i64 (k : Int)])) (hat : vf.ownBlock = some gf ∨ gf = W3.heap.size + 1)
    (hO1 : ∀ k, Own O B1 B2 k → k < W1.heap.size) :
    Pool (w4.setCell ⟨b, 2, none⟩ (.slice (some ⟨gf, 0, none⟩) (st.fr.length + 1) cf)) b (Own O B1 B2) { st with pl := st.pl.set k ⟨0, 0, false, g⟩, fr := st.fr ++ [k] } ∧ Same (Own O B1 B2) W1 (w4.setCell ⟨b, 2, none⟩ (.slice (some ⟨gf, 0, none⟩) (st.fr.length + 1) cf)) := by
  obtain ⟨hP, h3⟩ := F
  have hO3 : ∀ k, Own O B1 B2 k → k < W3.heap.size := fun i hi => Nat.lt_of_lt_of_le (hO1 i hi) h3.size
  refine ⟨((hP.alloc o).drew.endF hgrow hown (fun i hi => Nat.lt_succ_of_lt (hO3 i hi)) (own_none hat)).pool (st := { st with pl := st.pl.set k ⟨0, 0, false, g⟩, fr := st.fr ++ [k] }) (by simp) (set_free hk) (by simp) (cellsI_append _ _), ?_⟩
  exact ((h3.alloc hO3 o).drew.grown hgrow (fun i hi => by simpa using Nat.lt_succ_of_lt (hO3 i hi)) hP.fr.2).setCell hP.out _
theorem free_last {w w1 w5 : World} {b : Nat} {O : Nat → Prop} {st : St} {o : Obj} (hO : ∀ k, O k → k < w.heap.size) (hg : Below w.heap.size w w1) (h : Pool w5 b (Own O w.heap.size w1.heap.size) st ∧ Same (Own O w.heap.size w1.heap.size) (w1.alloc o) w5) (u v : Value) :
    Pool ((w5.setCell ⟨w.heap.size + 1, 0, none⟩ u).setCell ⟨w.heap.size + 1, 1, none⟩ v) b O st ∧ Same O w ((w5.setCell ⟨w.heap.size + 1, 0, none⟩ u).setCell ⟨w.heap.size + 1, 1, none⟩ v) := by
  obtain ⟨h1, h2⟩ := h
  have hB : ¬ O (w.heap.size + 1) := fun h => by have := hO _ h; omega
  have hs : Same O w w5 := (Same.of (hg.alloc hg.size o) hO).trans (h2.mono fun _ hk => .inl (.inl hk))
  exact ⟨((h1.setOther (a := ⟨w.heap.size + 1, 0, none⟩) (.inl (.inr (.inr rfl))) u).setOther (a := ⟨w.heap.size + 1, 1, none⟩) (.inl (.inr (.inr rfl))) v).other fun _ hk => .inl (.inl (.inl hk)), (hs.setCell (p := ⟨w.heap.size + 1, 0, none⟩) hB u).setCell (p := ⟨w.heap.size + 1, 1, none⟩) hB v⟩

theorem free_some (w : World) (b : Nat) (O : Nat → Prop) (st : St) (k : Nat) (q : Pl) (h : Pool w b O st) (h1 : st.pl.length ≤ 4096) (h2 : st.fr.length ≤ 4096) (hO : ∀ k, O k → k < w.heap.size) (hq : st.pl[k]? = some q) (hf : q.full = true) (hg1 : -9223372036854775808 ≤ q.gen) (hg2 : q.gen < 9223372036854775807) :
    Calls Try.prog 30 #[.pointer (some ⟨b, 0, none⟩), .agg #[.int .i64 k, .int .i64 q.gen]] w (IsFree q.thing q.tgen 0 { st with pl := st.pl.set k ⟨0, 0, false, q.gen + 1⟩, fr := st.fr ++ [k] } b O w) := by
  have hn : st.names k q.gen = true := by simp [St.names, St.at, hq, hf]
  have C : Hid _ := fun w h => get w b O st k q.gen h h1
  rw [show st.thing k q.gen = q.thing by simp [St.thing, hn, St.at, hq], show st.tgen k q.gen = q.tgen by simp [St.tgen, hn, St.at, hq], show st.err k q.gen = 0 by simp [St.err, hn]] at C
  have hk : k < st.pl.length := (List.getElem?_eq_some_iff.1 hq).1
  have hk1 : (k : Int) < st.pl.length := by omega
  go_enter Try.func30, Try.ntmps30
  go_wp2_with (go_at_call 51; refine (C.out _ (h.fresh (alloc2 _ _ _))).mono ?_; rintro e w1 ⟨rfl, hg1⟩; obtain ⟨a0, a1, a2⟩ := four hg1 rfl; have hg := fresh_trans (alloc2 _ _ _) hg1; have hz1 := hg1.size; simp only [World.size_alloc] at hz1; clear hg1)
  have hp1 := h.own hg (.cells #[.int .i64 q.thing, .int .i64 q.tgen] 34)
  have d0 := cell_alloc a0 (.cells #[.int .i64 q.thing, .int .i64 q.tgen] 34)
  have d1 := cell_alloc a1 (.cells #[.int .i64 q.thing, .int .i64 q.tgen] 34)
  have e2 : (w1.alloc (.cells #[.int .i64 q.thing, .int .i64 q.tgen] 34)).heap[w.heap.size + 1]? = _ := (Below.heap_alloc w1 _ _ (lt_of a2)).trans a2
  have e3 := heap_alloc_new w1 (.cells #[.int .i64 q.thing, .int .i64 q.tgen] 34)
  have hO1 : ∀ k, Own O w.heap.size w1.heap.size k → k < (w1.alloc (.cells #[.int .i64 q.thing, .int .i64 q.tgen] 34)).heap.size := by
    have := hg.size
    simp only [World.size_alloc]
    rintro k ((hk | rfl | rfl) | rfl)
    · have := hO k hk; omega
    · omega
    · omega
    · omega
  have Z : Hid (∀ w5 st', (Pool w5 b (Own O w.heap.size w1.heap.size) st' ∧ Same (Own O w.heap.size w1.heap.size) (w1.alloc (.cells #[.int .i64 q.thing, .int .i64 q.tgen] 34)) w5) → ∀ u v, _) := fun w5 st' hh u v => free_last hO hg hh u v
  clear C hn h a0 a1 a2 hz1
  generalize w1.alloc (.cells #[.int .i64 q.thing, .int .i64 q.tgen] 34) = W1 at *
  obtain ⟨vp, vf, hP⟩ := hp1.parts
  obtain ⟨c0, c1, c2, fz⟩ := Pool.cells hP.blk
  obtain ⟨gp, cp, rfl, k0, kt, k1, k2⟩ := hP.pl.places hq
  have z0 := hP.pl.1.frozenAt (k * 4)
  have zt := hP.pl.1.frozenAt (k * 4 + 1)
  have z1 := hP.pl.1.frozenAt (k * 4 + 2)
  have z2 := hP.pl.1.frozenAt (k * 4 + 3)
  go_region
  have hP3 := ((((hP.place (k * 4) (.int .i64 0)).place (k * 4 + 1) (.int .i64 0)).place (k * 4 + 2) (.bool false)).place (k * 4 + 3) (.int .i64 (q.gen + 1))).drew
  have hs3 := ((((hP.place (k * 4) (.int .i64 0)).place (k * 4 + 1) (.int .i64 0)).place (k * 4 + 2) (.bool false)).placeSame (((hP.place (k * 4) (.int .i64 0)).place (k * 4 + 1) (.int .i64 0)).placeSame ((hP.place (k * 4) (.int .i64 0)).placeSame (hP.placeSame (Same.refl _ W1) (k * 4) (.int .i64 0)) (k * 4 + 1) (.int .i64 0)) (k * 4 + 2) (.bool false)) (k * 4 + 3) (.int .i64 (q.gen + 1))).drew
  clear c0 c1 c2 fz k0 kt k1 k2 z0 zt z1 z2 hP
  generalize ((((W1.setCell ⟨gp, k * 4, none⟩ (.int .i64 0)).setCell ⟨gp, k * 4 + 1, none⟩ (.int .i64 0)).setCell ⟨gp, k * 4 + 2, none⟩ (.bool false)).setCell ⟨gp, k * 4 + 3, none⟩ (.int .i64 (q.gen + 1))).drew = W3 at *
  have b0 : W3.cell? ⟨w.heap.size, 0, none⟩ = some (.int .i64 (k : Int)) := (World.cell?_of_block (hs3.block _ (.inl (.inr (.inl rfl))))).trans d0
  obtain ⟨c0, c1, c2, fz⟩ := Pool.cells hP3.blk
  obtain ⟨af, cf, ef, _⟩ := hP3.fr.shape
  rw [ef] at c2
  have d2 := cell_alloc c2
  obtain ⟨i0, hi, hz0, hz1, hz2⟩ := info_parts infoI
  have F : Hid (Parts W3 b (Own O w.heap.size w1.heap.size) st.room _ vf _ _ _ _ ∧ Same (Own O w.heap.size w1.heap.size) W1 W3) := ⟨hP3, hs3⟩
  have hF := fun o => Lib.hid (hP3.alloc o).fr.1
  clear hp1 hP3 hs3 d0 d1 c0 c1
  go_wp2
  go_region_law ((refine step_append_lies _ (by rfl) (.tmp 33) (.tmp 36) 26 (by rfl) 0 3 i0 _ 1 8 Try.underlying26 hi hz0 hz1 hz2 rfl (by decide) vf st.fr.length (cellsI st.fr) (by rw [ef]; rfl) (hF _).out ⟨W3.heap.size, 0, none⟩ 1 1 [.int .i64 (k : Int)] (by rfl) rfl (World.news_of_block (heap_alloc_new W3 _)) (by simp [Value.oneCell']) (by decide) (by simp only [maxLen]; omega) (by omega) (Nat.zero_le _) (W3.heap.size + 1) (by simp) ?_; intro g cap w4 hown hgrow hat hlt; obtain ⟨m0, m1, m2, mz⟩ := Pool.cells ((F.out.1.alloc _).drew.grownF hgrow).1))
  all_goals
    have G := free_end hk F hgrow hown hat hO1
    obtain ⟨f0, f1, _⟩ := box2 ((G.2.block _ (.inr rfl)).trans e3)
    obtain ⟨r0, r1, rz⟩ := box2 ((G.2.block _ (.inl (.inr (.inr rfl)))).trans e2)
    have G := Lib.hid (Z.out _ _ G)
    clear F hF Z hown hgrow m0 m1 m2 mz
    generalize w4.setCell ⟨b, 2, none⟩ (.slice (some ⟨g, 0, none⟩) (st.fr.length + 1) cap) = w5 at *
    go_wp2
    refine bodyPost_ret (v := .tuple #[.agg #[.int .i64 q.thing, .int .i64 q.tgen], .int .i64 0]) (by simp [results, Try.results30, go_sem, r0, r1]) rfl ?_
    exact ⟨rfl, G.out _ _⟩
end Go.Proofs.Ytanahddlnchioaa.Hp
