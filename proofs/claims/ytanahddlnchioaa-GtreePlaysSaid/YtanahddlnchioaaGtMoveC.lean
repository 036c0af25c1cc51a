/- What Move of package gtree does: at the root, too deep, and where it moves. Conditions: none. -/
import Derived.Test.YtanahddlnchioaaGtMove
namespace Go.Proofs.Ytanahddlnchioaa.Gt
open Go.ChangeShapes Go.WideShapes Go.ChangeAt Go.RowKit Hp
set_option linter.unusedVariables false
set_option linter.unusedSimpArgs false

theorem move_root (w : World) (tb b : Nat) (O : Nat → Prop) (st : St) (j k : Int) (h : Tre w tb b O st) (h1 : st.pl.length ≤ 4096) (hn : st.names 0 0 = true) (hm : st.names j k = true) :
    Calls Try.prog 12 #[.pointer (some ⟨tb, 0, none⟩), .agg #[.int .i64 0, .int .i64 0], .agg #[.int .i64 j, .int .i64 k]] w (IsInt 1 w) := by
  have N : Hid _ := fun w h => names w tb b O st 0 0 h h1
  have M : Hid _ := fun w h => names w tb b O st j k h h1
  have R : Hid _ := fun w => root w 0 0
  rw [show isRoot 0 0 = true by decide] at R
  rw [hn] at N
  rw [hm] at M
  clear hn hm
  go_enter Try.func12, Try.ntmps12
  go_wp2_with fail
  go_at_call 27; refine (N.out _ (h.fresh (alloc2 _ _ _))).mono ?_; rintro e w1 ⟨rfl, hg1⟩; obtain ⟨a0, a1, a2⟩ := four hg1 rfl; obtain ⟨b0, b1, bz⟩ := box2 a2; have hg := fresh_trans (alloc2 _ _ _) hg1; clear hg1
  go_wp2_with fail
  go_at_call 27; refine (M.out _ (h.fresh hg)).mono ?_; rintro e w2 ⟨rfl, hg2⟩; replace a0 := cell_fresh a0 hg2; replace a1 := cell_fresh a1 hg2; replace b0 := cell_fresh b0 hg2; replace b1 := cell_fresh b1 hg2; replace hg := fresh_trans hg hg2; clear hg2
  go_wp2_with (go_at_call 28; refine (R.out _).mono ?_; rintro e w3 ⟨rfl, hg2⟩; have hg4 := fresh_trans hg hg2; clear hg2)
  go_ret
  exact ⟨rfl, hg4⟩

set_option maxHeartbeats 4000000 in
theorem move_deep (w : World) (tb b : Nat) (O : Nat → Prop) (st : St) (i g j k : Int) (h : Tre w tb b O st) (h1 : st.pl.length ≤ 4096) (ho : Ok st) (hn : st.names i g = true) (hr : isRoot i g = false) (hm : st.names j k = true) (hin : isIn j k i g (upsOf st j k) = false) (r0 : 0 ≤ reachOf st i g) (r1 : reachOf st i g ≤ 4096) (hd : (8 : Int) < (upsOf st j k).length + 1 + reachOf st i g) :
    Calls Try.prog 12 #[.pointer (some ⟨tb, 0, none⟩), .agg #[.int .i64 i, .int .i64 g], .agg #[.int .i64 j, .int .i64 k]] w (IsInt 5 w) := by
  obtain ⟨hu, hl⟩ := ho.ups hm
  have N : Hid _ := fun w h => names w tb b O st i g h h1
  have M : Hid _ := fun w h => names w tb b O st j k h h1
  have U : Hid _ := fun w h => under w tb b O st j k i g _ h h1 hu
  have R : Hid _ := fun w => root w i g
  have S : Hid (∀ w', Below w.heap.size w w' → _) := fun w' hb => steps w' tb b O st j k _ (h.fresh hb) h1 hu (by omega)
  have RC : Hid (∀ w', Below w.heap.size w w' → _) := fun w' hb => reach w' tb b O st i g (h.fresh hb) h1 ho hn
  rw [hn, hin] at U
  rw [hr] at R
  rw [hn] at N
  rw [hm] at M
  clear hn hin hu hr hm
  have sp0 : (0 : Int) ≤ ((upsOf st j k).length : Int) := by omega
  have sp1 : ((upsOf st j k).length : Int) ≤ 8 := by omega
  generalize ((upsOf st j k).length : Int) = sp at *
  generalize reachOf st i g = rc at *
  go_enter Try.func12, Try.ntmps12
  go_wp2_with fail
  go_at_call 27; refine (N.out _ (h.fresh (alloc2 _ _ _))).mono ?_; rintro e w1 ⟨rfl, hg1⟩; obtain ⟨a0, a1, a2⟩ := four hg1 rfl; obtain ⟨b0, b1, bz⟩ := box2 a2; have hg := fresh_trans (alloc2 _ _ _) hg1; clear hg1
  go_wp2_with fail
  go_at_call 27; refine (M.out _ (h.fresh hg)).mono ?_; rintro e w2 ⟨rfl, hg2⟩; replace a0 := cell_fresh a0 hg2; replace a1 := cell_fresh a1 hg2; replace b0 := cell_fresh b0 hg2; replace b1 := cell_fresh b1 hg2; replace hg := fresh_trans hg hg2; clear hg2
  go_wp2_with (first
    | (go_at_call 28; refine (R.out _).mono ?_; rintro e w3 ⟨rfl, hg2⟩; replace a0 := cell_fresh a0 hg2; replace a1 := cell_fresh a1 hg2; replace b0 := cell_fresh b0 hg2; replace b1 := cell_fresh b1 hg2; replace hg := fresh_trans hg hg2; clear hg2)
    | (go_at_call 19; refine (U.out _ (h.fresh hg)).mono ?_; rintro e w4 ⟨rfl, hg2⟩; replace a0 := cell_fresh a0 hg2; replace a1 := cell_fresh a1 hg2; replace b0 := cell_fresh b0 hg2; replace b1 := cell_fresh b1 hg2; have hg4 := fresh_trans hg hg2; clear hg2))
  have la := World.block_lt_of_cell? _ _ a0
  have lb := World.block_lt_of_cell? _ _ b0
  simp only at la lb
  generalize w.heap.size + 1 = s' at *
  have KE : Hid (∀ w', Below w4.heap.size w4 w' → w'.cell? ⟨w.heap.size, 0, none⟩ = some (.int .i64 i) ∧ w'.cell? ⟨w.heap.size, 1, none⟩ = some (.int .i64 g) ∧ w'.cell? ⟨s', 0, none⟩ = some (.int .i64 j) ∧ w'.cell? ⟨s', 1, none⟩ = some (.int .i64 k)) := fun w' h => ⟨(h.cell (p := ⟨w.heap.size, 0, none⟩) la).trans a0, (h.cell (p := ⟨w.heap.size, 1, none⟩) la).trans a1, (h.cell (p := ⟨s', 0, none⟩) lb).trans b0, (h.cell (p := ⟨s', 1, none⟩) lb).trans b1⟩
  have hB0 := Lib.hid (Below.refl w4.heap.size w4)
  have FIN : Hid (∀ w', Below w4.heap.size w4 w' → Below w.heap.size w w') := fun w' hb => hg4.trans (hb.mono hg4.size)
  have e1 : IntKind.i64.wrap (sp + 1) = sp + 1 := by rw [IntKind.wrap_i64]; omega
  have e2 : IntKind.i64.wrap (sp + 1 + rc) = sp + 1 + rc := by rw [IntKind.wrap_i64]; omega
  have e3 : decide (8 < sp + 1 + rc) = true := by simpa using hd
  clear N M U R
  go_region_held3 (fun w' => w'.cell? ⟨w.heap.size, 0, none⟩ = some (.int .i64 i) ∧ w'.cell? ⟨w.heap.size, 1, none⟩ = some (.int .i64 g) ∧ w'.cell? ⟨s', 0, none⟩ = some (.int .i64 j) ∧ w'.cell? ⟨s', 1, none⟩ = some (.int .i64 k)) (first | exact ⟨a0, a1, b0, b1⟩ | exact KE.out _ hB1.out | exact KE.out _ hB2.out)
    (first
      | (go_at_call 33; refine (S.out _ (FIN.out _ (by first | exact hB1.out | exact hB1.out.drew | exact hB0.out | exact hB0.out.drew))).mono ?_; rintro e w5 ⟨rfl, hg5⟩; first | (have hB2 := Lib.hid (hB1.out.trans (hg5.mono hB1.out.size))) | (have hB1 := Lib.hid (hB0.out.drew.trans (hg5.mono (Nat.le_refl _)))))
      | (go_at_call 34; refine (RC.out _ (FIN.out _ (by first | exact hB1.out | exact hB1.out.drew | exact hB0.out | exact hB0.out.drew))).mono ?_; rintro e w6 ⟨rfl, hg6⟩; first | (have hB2 := Lib.hid (hB1.out.trans (hg6.mono hB1.out.size))) | (have hB1 := Lib.hid (hB0.out.drew.trans (hg6.mono (Nat.le_refl _))))))
  all_goals
    go_wp2
    go_ret
    exact ⟨rfl, FIN.out _ hB2.out⟩
theorem move_end {w w1 w2 : World} {tb b : Nat} {O : Nat → Prop} {st st' : St} (h : Tre w tb b O st) (hlt : ∀ k, With O tb k → k < w.heap.size) (hg : Below w.heap.size w w1) (hp : Pool w2 b (With O tb) st') (hs : Same (With O tb) w1 w2) : Tre w2 tb b O st' ∧ Same O w w2 := by
  have hs1 : Same (With O tb) w w2 := (Same.of hg hlt).trans hs
  exact ⟨h.same hp hs1, hs1.without⟩
set_option maxHeartbeats 4000000 in
theorem move_some (w : World) (tb b : Nat) (O : Nat → Prop) (st : St) (i g j k : Int) (h : Tre w tb b O st) (h1 : st.pl.length ≤ 4096) (ho : Ok st) (hn : st.names i g = true) (hr : isRoot i g = false) (hm : st.names j k = true) (hin : isIn j k i g (upsOf st j k) = false) (r0 : 0 ≤ reachOf st i g) (r1 : reachOf st i g ≤ 4096) (hd : ((upsOf st j k).length : Int) + 1 + reachOf st i g ≤ 8) (hO : ∀ k, O k → k < w.heap.size) :
    Calls Try.prog 12 #[.pointer (some ⟨tb, 0, none⟩), .agg #[.int .i64 i, .int .i64 g], .agg #[.int .i64 j, .int .i64 k]] w (Did (.int .i64 0) (st.set i g j k) tb b O w) := by
  obtain ⟨hu, hl⟩ := ho.ups hm
  have N : Hid _ := fun w h => names w tb b O st i g h h1
  have M : Hid _ := fun w h => names w tb b O st j k h h1
  have U : Hid _ := fun w h => under w tb b O st j k i g _ h h1 hu
  have R : Hid _ := fun w => root w i g
  have S : Hid (∀ w', Below w.heap.size w w' → _) := fun w' hb => steps w' tb b O st j k _ (h.fresh hb) h1 hu (by omega)
  have RC : Hid (∀ w', Below w.heap.size w w' → _) := fun w' hb => reach w' tb b O st i g (h.fresh hb) h1 ho hn
  have F : Hid (∀ w O, Pool w b O st → (∀ k, O k → k < w.heap.size) → Calls Try.prog 35 #[.pointer (some ⟨b, 0, none⟩), .agg #[.int .i64 i, .int .i64 g], .agg #[.int .i64 j, .int .i64 k]] w (Hp.Did (.int .i64 0) (st.set i g j k) b O w)) := fun w O h hO => by
    have := Hp.set w b O st i g j k h h1 hO
    rwa [show st.err i g = 0 by simp [St.err, hn]] at this
  have hlt : ∀ k, With O tb k → k < w.heap.size := With.lt hO h.lt
  rw [hn, hin] at U
  rw [hr] at R
  rw [hn] at N
  rw [hm] at M
  clear hn hin hu hr hm
  have sp0 : (0 : Int) ≤ ((upsOf st j k).length : Int) := by omega
  have sp1 : ((upsOf st j k).length : Int) ≤ 8 := by omega
  generalize ((upsOf st j k).length : Int) = sp at *
  generalize reachOf st i g = rc at *
  generalize st.set i g j k = st' at *
  go_enter Try.func12, Try.ntmps12
  go_wp2_with fail
  go_at_call 27; refine (N.out _ (h.fresh (alloc2 _ _ _))).mono ?_; rintro e w1 ⟨rfl, hg1⟩; obtain ⟨a0, a1, a2⟩ := four hg1 rfl; obtain ⟨b0, b1, bz⟩ := box2 a2; have hg := fresh_trans (alloc2 _ _ _) hg1; clear hg1
  go_wp2_with fail
  go_at_call 27; refine (M.out _ (h.fresh hg)).mono ?_; rintro e w2 ⟨rfl, hg2⟩; replace a0 := cell_fresh a0 hg2; replace a1 := cell_fresh a1 hg2; replace b0 := cell_fresh b0 hg2; replace b1 := cell_fresh b1 hg2; replace hg := fresh_trans hg hg2; clear hg2
  go_wp2_with (first
    | (go_at_call 28; refine (R.out _).mono ?_; rintro e w3 ⟨rfl, hg2⟩; replace a0 := cell_fresh a0 hg2; replace a1 := cell_fresh a1 hg2; replace b0 := cell_fresh b0 hg2; replace b1 := cell_fresh b1 hg2; replace hg := fresh_trans hg hg2; clear hg2)
    | (go_at_call 19; refine (U.out _ (h.fresh hg)).mono ?_; rintro e w4 ⟨rfl, hg2⟩; replace a0 := cell_fresh a0 hg2; replace a1 := cell_fresh a1 hg2; replace b0 := cell_fresh b0 hg2; replace b1 := cell_fresh b1 hg2; have hg4 := fresh_trans hg hg2; clear hg2))
  have la := World.block_lt_of_cell? _ _ a0
  have lb := World.block_lt_of_cell? _ _ b0
  simp only at la lb
  generalize w.heap.size + 1 = s' at *
  have KE : Hid (∀ w', Below w4.heap.size w4 w' → w'.cell? ⟨w.heap.size, 0, none⟩ = some (.int .i64 i) ∧ w'.cell? ⟨w.heap.size, 1, none⟩ = some (.int .i64 g) ∧ w'.cell? ⟨s', 0, none⟩ = some (.int .i64 j) ∧ w'.cell? ⟨s', 1, none⟩ = some (.int .i64 k)) := fun w' h => ⟨(h.cell (p := ⟨w.heap.size, 0, none⟩) la).trans a0, (h.cell (p := ⟨w.heap.size, 1, none⟩) la).trans a1, (h.cell (p := ⟨s', 0, none⟩) lb).trans b0, (h.cell (p := ⟨s', 1, none⟩) lb).trans b1⟩
  have hB0 := Lib.hid (Below.refl w4.heap.size w4)
  have FIN : Hid (∀ w', Below w4.heap.size w4 w' → Below w.heap.size w w') := fun w' hb => hg4.trans (hb.mono hg4.size)
  have e1 : IntKind.i64.wrap (sp + 1) = sp + 1 := by rw [IntKind.wrap_i64]; omega
  have e2 : IntKind.i64.wrap (sp + 1 + rc) = sp + 1 + rc := by rw [IntKind.wrap_i64]; omega
  have e3 : decide (8 < sp + 1 + rc) = false := by simp; omega
  clear N M U R
  go_region_held3 (fun w' => w'.cell? ⟨w.heap.size, 0, none⟩ = some (.int .i64 i) ∧ w'.cell? ⟨w.heap.size, 1, none⟩ = some (.int .i64 g) ∧ w'.cell? ⟨s', 0, none⟩ = some (.int .i64 j) ∧ w'.cell? ⟨s', 1, none⟩ = some (.int .i64 k)) (first | exact ⟨a0, a1, b0, b1⟩ | exact KE.out _ hB1.out | exact KE.out _ hB2.out)
    (first
      | (go_at_call 33; refine (S.out _ (FIN.out _ (by first | exact hB1.out | exact hB1.out.drew | exact hB0.out | exact hB0.out.drew))).mono ?_; rintro e w5 ⟨rfl, hg5⟩; first | (have hB2 := Lib.hid (hB1.out.trans (hg5.mono hB1.out.size))) | (have hB1 := Lib.hid (hB0.out.drew.trans (hg5.mono (Nat.le_refl _)))))
      | (go_at_call 34; refine (RC.out _ (FIN.out _ (by first | exact hB1.out | exact hB1.out.drew | exact hB0.out | exact hB0.out.drew))).mono ?_; rintro e w6 ⟨rfl, hg6⟩; first | (have hB2 := Lib.hid (hB1.out.trans (hg6.mono hB1.out.size))) | (have hB1 := Lib.hid (hB0.out.drew.trans (hg6.mono (Nat.le_refl _))))))
  all_goals
    obtain ⟨a0', a1', b0', b1'⟩ := KE.out _ hB2.out
    have hg6 := FIN.out _ hB2.out
    have c0 := (h.fresh hg6).cell
    have PA := Lib.hid ((h.fresh hg6).pool.fresh (Below.refl _ _).drew)
    have LA := Lib.hid (fun k hk => Nat.lt_of_lt_of_le (hlt k hk) hg6.size)
    have G := Lib.hid (fun w7 st' hp hs => move_end (w2 := w7) (st' := st') h hlt hg6.drew hp hs)
    clear a0 a1 b0 b1 KE FIN hB0 hB1 hB2 S RC
    go_wp2
    go_region_with (go_at_call 35; refine (F.out _ (With O tb) PA.out LA.out).mono ?_; rintro e w7 ⟨rfl, hp7, hs7⟩; have G7 := Lib.hid (G.out _ _ hp7 hs7); clear hp7 hs7)
    all_goals
      go_wp2
      go_ret
      exact ⟨rfl, G7.out⟩
end Go.Proofs.Ytanahddlnchioaa.Gt
