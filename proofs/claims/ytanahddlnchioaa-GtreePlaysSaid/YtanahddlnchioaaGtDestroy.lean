/- What Destroy of package gtree does. Conditions: none. -/
import Derived.Test.YtanahddlnchioaaGtKids
import Derived.Test.YtanahddlnchioaaGtPure
namespace Go.Proofs.Ytanahddlnchioaa.Gt
open Go.ChangeShapes Go.WideShapes Go.ChangeAt Go.RowKit Hp
set_option linter.unusedVariables false
set_option linter.unusedSimpArgs false

theorem destroy_none (w : World) (tb b : Nat) (O : Nat → Prop) (st : St) (i g : Int) (h : Tre w tb b O st) (h1 : st.pl.length ≤ 4096) (hn : st.names i g = false) :
    Calls Try.prog 10 #[.pointer (some ⟨tb, 0, none⟩), .agg #[.int .i64 i, .int .i64 g]] w (IsInt 2 w) := by
  have N : Hid _ := fun w h => names w tb b O st i g h h1
  rw [hn] at N
  clear hn
  go_enter Try.func10, Try.ntmps10
  go_wp2_with (go_at_call 27; refine (N.out _ (h.fresh (alloc1 _ _))).mono ?_; rintro e w1 ⟨rfl, hg1⟩; have hg := fresh_trans (alloc1 _ _) hg1; clear hg1)
  go_ret
  exact ⟨rfl, hg⟩
theorem destroy_root (w : World) (tb b : Nat) (O : Nat → Prop) (st : St) (h : Tre w tb b O st) (h1 : st.pl.length ≤ 4096) (hn : st.names 0 0 = true) :
    Calls Try.prog 10 #[.pointer (some ⟨tb, 0, none⟩), .agg #[.int .i64 0, .int .i64 0]] w (IsInt 1 w) := by
  have N : Hid _ := fun w h => names w tb b O st 0 0 h h1
  rw [hn] at N
  clear hn
  have R : Hid _ := fun w => root w 0 0
  rw [show isRoot 0 0 = true by decide] at R
  go_enter Try.func10, Try.ntmps10
  go_wp2_with (first
    | (go_at_call 27; refine (N.out _ (h.fresh (alloc1 _ _))).mono ?_; rintro e w1 ⟨rfl, hg1⟩; obtain ⟨a0, a1⟩ := two hg1 rfl; have hg := fresh_trans (alloc1 _ _) hg1; clear hg1)
    | (go_at_call 28; refine (R.out _).mono ?_; rintro e w2 ⟨rfl, hg2⟩; have hg3 := fresh_trans hg hg2; clear hg2))
  go_ret
  exact ⟨rfl, hg3⟩
theorem destroy_busy (w : World) (tb b : Nat) (O : Nat → Prop) (st : St) (i g : Int) (h : Tre w tb b O st) (h1 : st.pl.length ≤ 4096) (ho : Ok st) (hn : st.names i g = true) (hr : isRoot i g = false) (hk : 0 < ((hs st.pl st.pl.length).filter fun q => kid? st q.1 q.2 i g).length) :
    Calls Try.prog 10 #[.pointer (some ⟨tb, 0, none⟩), .agg #[.int .i64 i, .int .i64 g]] w (IsInt 6 w) := by
  have N : Hid _ := fun w h => names w tb b O st i g h h1
  rw [hn] at N
  have R : Hid _ := fun w => root w i g
  rw [hr] at R
  have K : Hid _ := fun w h => kids w tb b O st i g h h1 ho
  clear hn hr
  generalize (hs st.pl st.pl.length).filter (fun q => kid? st q.1 q.2 i g) = L at *
  have hk' : (0 : Int) < L.length := by omega
  go_enter Try.func10, Try.ntmps10
  go_wp2_with (first
    | (go_at_call 27; refine (N.out _ (h.fresh (alloc1 _ _))).mono ?_; rintro e w1 ⟨rfl, hg1⟩; obtain ⟨a0, a1⟩ := two hg1 rfl; have hg := fresh_trans (alloc1 _ _) hg1; clear hg1)
    | (go_at_call 28; refine (R.out _).mono ?_; rintro e w2 ⟨rfl, hg2⟩; replace a0 := cell_fresh a0 hg2; replace a1 := cell_fresh a1 hg2; replace hg := fresh_trans hg hg2; clear hg2)
    | (go_at_call 29; refine (K.out _ (h.fresh hg)).mono ?_; rintro e w3 ⟨v, rfl, hown, hg3⟩; obtain ⟨ao, cp, rfl⟩ : ∃ ao cp, v = .slice ao L.length cp := (by rcases hown.2 with ⟨e, e2⟩ | ⟨_, _, _, e, _⟩; exact ⟨none, 0, by rw [e, e2]⟩; exact ⟨_, _, e⟩); replace hg := fresh_trans hg hg3; clear hg3))
  go_ret
  exact ⟨rfl, hg⟩

/-- The box of what is thrown away: made behind the call, or ahead of it. -/
theorem destroy_a {w w1 w2 : World} {tb b : Nat} {O : Nat → Prop} {st st' : St} (h : Tre w tb b O st) (hO : ∀ k, O k → k < w.heap.size) (hg : Below w.heap.size w w1) (hp : Pool w2 b (With O tb) st') (hs : Same (With O tb) w1 w2) (o : Obj) : Tre (w2.alloc o) tb b O st' ∧ Same O w (w2.alloc o) := by
  have hlt : ∀ k, With O tb k → k < w.heap.size := With.lt hO h.lt
  have hs1 : Same (With O tb) w w2 := (Same.of hg hlt).trans hs
  exact ⟨(h.same hp hs1).fresh (alloc1 _ _), hs1.without.alloc (fun k hk => Nat.lt_of_lt_of_le (hO k hk) hs1.size) o⟩
theorem destroy_b {w w1 w2 : World} {tb b x : Nat} {O : Nat → Prop} {st st' : St} (h : Tre w tb b O st) (hO : ∀ k, O k → k < w.heap.size) (hg : Below w.heap.size w w1) (hx : w.heap.size ≤ x) (hp : Pool w2 b (With (With O tb) x) st') (hs : Same (With (With O tb) x) w1 w2) (u v : Value) : Tre ((w2.setCell ⟨x, 0, none⟩ u).setCell ⟨x, 1, none⟩ v) tb b O st' ∧ Same O w ((w2.setCell ⟨x, 0, none⟩ u).setCell ⟨x, 1, none⟩ v) := by
  have hlt : ∀ k, With O tb k → k < w.heap.size := With.lt hO h.lt
  have hB : ¬ With O tb x := fun h' => by have := hlt _ h'; omega
  have hs1 : Same (With O tb) w w2 := (Same.of hg hlt).trans hs.without
  have hs2 := (hs1.setCell (p := ⟨x, 0, none⟩) hB u).setCell (p := ⟨x, 1, none⟩) hB v
  have hp2 := ((hp.setOther (a := ⟨x, 0, none⟩) (.inr rfl) u).setOther (a := ⟨x, 1, none⟩) (.inr rfl) v).without
  exact ⟨h.same hp2 hs2, hs2.without⟩
set_option maxHeartbeats 4000000 in
theorem destroy_some (w : World) (tb b : Nat) (O : Nat → Prop) (N : Int) (hN : N ≤ 1000000000) (st : St) (i g : Int) (h : Tre w tb b O st) (hI : Inv N st) (ho : Ok st) (hO : ∀ k, O k → k < w.heap.size) (hn : st.names i g = true) (hr : isRoot i g = false) (hk : ((hs st.pl st.pl.length).filter fun q => kid? st q.1 q.2 i g) = []) :
    Calls Try.prog 10 #[.pointer (some ⟨tb, 0, none⟩), .agg #[.int .i64 i, .int .i64 g]] w (Did (.int .i64 0) (st.free i g) tb b O w) := by
  have h1 := hI.l1
  have NN : Hid _ := fun w h => names w tb b O st i g h h1
  rw [hn] at NN
  have R : Hid _ := fun w => root w i g
  rw [hr] at R
  have K : Hid _ := fun w h => kids w tb b O st i g h h1 ho
  rw [hk] at K
  have F : Hid _ := fun w O h hO => Hp.free (w := w) (b := b) (O := O) i g h hI hN hO
  rw [show st.err i g = 0 by simp [St.err, hn]] at F
  clear hn hr hk
  generalize st.thing i g = p at *
  generalize st.tgen i g = q at *
  generalize st.free i g = st' at *
  have hlt : ∀ k, With O tb k → k < w.heap.size := With.lt hO h.lt
  go_enter Try.func10, Try.ntmps10
  go_wp2_with (first
    | (go_at_call 27; refine (NN.out _ (h.fresh (alloc1 _ _))).mono ?_; rintro e w1 ⟨rfl, hg1⟩; obtain ⟨a0, a1⟩ := two hg1 rfl; have hg := fresh_trans (alloc1 _ _) hg1; clear hg1)
    | (go_at_call 28; refine (R.out _).mono ?_; rintro e w2 ⟨rfl, hg2⟩; replace a0 := cell_fresh a0 hg2; replace a1 := cell_fresh a1 hg2; replace hg := fresh_trans hg hg2; clear hg2)
    | (go_at_call 29; refine (K.out _ (h.fresh hg)).mono ?_; rintro e w3 ⟨v, rfl, hown, hg3⟩; obtain ⟨ao, cp, rfl⟩ : ∃ ao cp, v = .slice ao 0 cp := (by rcases hown.2 with ⟨e, e2⟩ | ⟨_, _, _, e, _⟩; exact ⟨none, 0, by rw [e]⟩; exact ⟨_, _, e⟩); replace a0 := cell_fresh a0 hg3; replace a1 := cell_fresh a1 hg3; replace hg := fresh_trans hg hg3; clear hg3))
  have c0 := (h.fresh hg).cell
  have hlt3 : ∀ k, With O tb k → k < w3.heap.size := fun k hk => Nat.lt_of_lt_of_le (hlt k hk) hg.size
  have PA : Hid (Pool w3.drew b (With O tb) st) := (h.fresh hg).pool.fresh (Below.refl _ _).drew
  have PB : Hid (∀ o, Pool (w3.alloc o).drew b (With (With O tb) w3.heap.size) st) := fun o => ((h.fresh hg).pool.with.fresh (alloc1 _ o)).fresh (Below.refl _ _).drew
  have LB : Hid (∀ o, ∀ k, With (With O tb) w3.heap.size k → k < (w3.alloc o).drew.heap.size) := fun o k hk => by
    show k < (w3.alloc o).heap.size
    rw [World.size_alloc]
    rcases hk with hk | rfl
    · have := hlt3 k hk; omega
    · omega
  have NB : Hid (∀ x y : Value, (w3.alloc (.cells #[x, y] 34)).drew.heap[w3.heap.size]? = some (.cells #[x, y] 34 (0, 0))) := fun x y => heap_alloc_new w3 _
  have ga := Lib.hid hg.drew
  have gb : Hid (∀ o, Below w.heap.size w (w3.alloc o).drew) := fun o => (hg.alloc hg.size o).drew
  have HT := Lib.hid h
  have HO := Lib.hid hO
  have hsz := hg.size
  have c1 := fun o => cell_alloc c0 o
  have a2 := fun o => cell_alloc a0 o
  have a3 := fun o => cell_alloc a1 o
  clear NN R K hown h
  go_region_with (go_at_call 30; first
    | (refine (F.out w3.drew (With O tb) PA.out hlt3).mono ?_; rintro e w4 ⟨rfl, hp4, hs4⟩; have G := Lib.hid (destroy_a HT.out HO.out ga.out hp4 hs4); clear hp4 hs4)
    | (refine (F.out _ (With (With O tb) w3.heap.size) (PB.out _) (LB.out _)).mono ?_; rintro e w4 ⟨rfl, hp4, hs4⟩; obtain ⟨b0, b1, bz⟩ := box2 ((hs4.block _ (.inr rfl)).trans (NB.out _ _)); have G := Lib.hid (destroy_b HT.out HO.out (gb.out _) hsz hp4 hs4); clear hp4 hs4))
  all_goals
    go_wp2
    go_ret
    first
    | exact ⟨rfl, G.out _⟩
    | exact ⟨rfl, G.out _ _⟩
end Go.Proofs.Ytanahddlnchioaa.Gt
