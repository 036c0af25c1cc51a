/- What stayOrFirst of package runq answers. Conditions: each number is one of its kind. -/
import Derived.Test.YteoemafdknmklaaQueuePick
namespace Go.Proofs.Yteoemafdknmklaa.Queue
open Go.ChangeShapes Go.WideShapes Go.ChangeAt Go.RowKit Tree
set_option linter.unusedVariables false
set_option linter.unusedSimpArgs false
set_option maxRecDepth 100000

/-- Whether the current one stays. -/
def stays (st : St) (g : Int) : Bool := named st.es st.cur && (match other st with
  | none => true
  | some o => decide ((find st.es st.cur).v ≤ reach o.v g))
def chosen (st : St) (g : Int) : Int := if stays st g then (find st.es st.cur).id else match other st with
  | none => -1
  | some o => o.id
set_option maxHeartbeats 4000000 in
theorem stayOrFirsts (w : World) (q : Nat) (O : Nat → Prop) (st : St) (g : Int) (h : Qu w q O st) (ho : Once st.es) (hc : I64 st.cur) (hg : I64 g) (hv : ∀ e ∈ st.es, I64 e.v) :
    Calls Try.prog 55 #[.pointer (some ⟨q, 0, none⟩), .int .i64 g] w (Is (.int .i64 (chosen st g)) w) := by
  have F := Lib.hid (fun w' (g : Below w.heap.size w w') => finds w' q O st st.cur (h.fresh g) hc)
  have B := Lib.hid (fun w' (g : Below w.heap.size w w') => firstOthers w' q O st (h.fresh g) ho)
  have hq := h.lt
  have c2 : w.cell? ⟨q, 2, none⟩ = some (.int .i64 st.cur) := by
    obtain ⟨m, t, T, h⟩ := h
    exact h.blk.cells.2.2.1
  have hov : ∀ o, other st = some o → I64 o.v := fun o e => hv o (by
    unfold other at e
    have := List.mem_of_mem_head? e
    unfold drop at this
    exact (List.mem_filter.1 this).1)
  unfold chosen stays
  clear h
  generalize find st.es st.cur = now at *
  generalize named st.es st.cur = sv at *
  generalize st.cur = cur at *
  obtain ⟨na, nb, nc, nd⟩ := now
  simp only [Ent.val] at F
  cases hoo : other st with
  | none =>
    rw [hoo] at B
    simp only [Option.map_none, keyV] at B
    cases sv
    all_goals
      simp only [Bool.false_and, Bool.true_and, Bool.false_eq_true, if_false, if_true]
      go_enter Try.func55, Try.ntmps55
      go_wp2_with (first
        | (go_at_call 51; refine (F.out _ (Below.refl _ w)).mono ?_; rintro e w1 ⟨rfl, hg1⟩; have hs1 := hg1.size)
        | (go_at_call 71; refine (B.out _ (fresh_trans hg1 ((Below.refl _ _).alloc (Nat.le_refl _) _))).mono ?_; rintro e w2 ⟨rfl, hg2⟩; obtain ⟨n0, n1, n2, n3, nz, nn⟩ := new_four hg2; have hl2 := lt_of nn; replace hg1 := fresh_trans hg1 (fresh_trans ((Below.refl _ _).alloc (Nat.le_refl _) _) hg2); clear hg2 nn nz hs1))
      go_quiet (fail)
      go_wp2_with fail
      go_ret
      exact ⟨rfl, fresh_trans hg1 (fresh_trans ((Below.refl _ _).alloc (Nat.le_refl _) _) (drawn _ _))⟩
  | some o =>
    have ha := hov o hoo
    rw [hoo] at B
    simp only [Option.map_some, keyV, Ent.key] at B
    have AH := Lib.hid (fun w => aheads o.v g w ha hg)
    clear hov ha hv ho
    show Calls Try.prog 55 #[.pointer (some ⟨q, 0, none⟩), .int .i64 g] w (Is (.int .i64 (if (sv && decide (nc ≤ reach o.v g)) = true then na else o.id)) w)
    generalize reach o.v g = rc at *
    generalize o.v = ov at *
    generalize o.id = oi at *
    cases sv
    · simp only [Bool.false_and, Bool.false_eq_true, if_false]
      go_enter Try.func55, Try.ntmps55
      go_wp2_with (first
        | (go_at_call 51; refine (F.out _ (Below.refl _ w)).mono ?_; rintro e w1 ⟨rfl, hg1⟩; have hs1 := hg1.size)
        | (go_at_call 71; refine (B.out _ (fresh_trans hg1 ((Below.refl _ _).alloc (Nat.le_refl _) _))).mono ?_; rintro e w2 ⟨rfl, hg2⟩; obtain ⟨n0, n1, n2, n3, nz, nn⟩ := new_four hg2; have hl2 := lt_of nn; replace hg1 := fresh_trans hg1 (fresh_trans ((Below.refl _ _).alloc (Nat.le_refl _) _) hg2); clear hg2 nn nz hs1))
      go_quiet (fail)
      go_wp2_with fail
      go_ret
      exact ⟨rfl, fresh_trans hg1 (fresh_trans ((Below.refl _ _).alloc (Nat.le_refl _) _) (drawn _ _))⟩
    · simp only [Bool.true_and]
      by_cases hle : nc ≤ rc
      all_goals
        first
          | rw [if_pos (by simpa using hle)]
          | rw [if_neg (by simpa using hle)]
        have hdec : ¬ nc ≤ rc → decide (nc ≤ rc) = false := fun h => decide_eq_false h
        go_enter Try.func55, Try.ntmps55
        go_wp2_with (first
          | (go_at_call 51; refine (F.out _ (Below.refl _ w)).mono ?_; rintro e w1 ⟨rfl, hg1⟩; have hs1 := hg1.size)
          | (go_at_call 71; refine (B.out _ (fresh_trans hg1 ((Below.refl _ _).alloc (Nat.le_refl _) _))).mono ?_; rintro e w2 ⟨rfl, hg2⟩; obtain ⟨n0, n1, n2, n3, nz, nn⟩ := new_four hg2; have hl2 := lt_of nn; replace hg1 := fresh_trans hg1 (fresh_trans ((Below.refl _ _).alloc (Nat.le_refl _) _) hg2); clear hg2 nn nz hs1))
        have hgV := (Below.refl w2.heap.size w2).alloc (Nat.le_refl _) (.cells #[.int .i64 ov, .int .i64 oi] 89)
        obtain ⟨u0, u1, uz, uu⟩ := new_two (Below.refl _ (w2.alloc (.cells #[.int .i64 ov, .int .i64 oi] 89)))
        have v0 := (hgV.cell (p := ⟨w1.heap.size, 0, none⟩) hl2).trans n0
        have v2 := (hgV.cell (p := ⟨w1.heap.size, 2, none⟩) hl2).trans n2
        have hgX := fresh_trans hg1 hgV
        have hu := lt_of uu
        have hx := Nat.lt_trans hl2 hu
        clear n0 n1 n2 n3 hgV uu uz
        generalize w2.alloc (.cells #[.int .i64 ov, .int .i64 oi] 89) = V at *
        generalize w2.heap.size = s2 at *
        generalize w1.heap.size = s1 at *
        go_region_held3 (fun w' => w'.cell? ⟨s1, 2, none⟩ = some (.int .i64 nc) ∧ w'.cell? ⟨s2, 0, none⟩ = some (.int .i64 ov)) (first | exact ⟨v2, u0⟩ | exact ⟨y2, z0⟩)
          (first
            | (go_at_call 72; refine (AH.out _).mono ?_; rintro e w3 ⟨rfl, hg3⟩; replace hg3 := undrew hg3; have y0 := (hg3.cell (p := ⟨s1, 0, none⟩) hx).trans v0; have y2 := (hg3.cell (p := ⟨s1, 2, none⟩) hx).trans v2; have z0 := (hg3.cell (p := ⟨s2, 0, none⟩) hu).trans u0; have z1 := (hg3.cell (p := ⟨s2, 1, none⟩) hu).trans u1; replace hgX := fresh_trans hgX hg3; clear hg3))
        all_goals
          go_wp2_with fail
          go_ret
          exact ⟨rfl, hgX⟩
end Go.Proofs.Yteoemafdknmklaa.Queue
