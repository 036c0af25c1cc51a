/- What load.Busiest, load.Least and load.Idle return. Conditions: each argument is a number of its kind. -/
import Derived.Test.YtijocgpbifgifaaLoadIter
namespace Go.Proofs.Ytijocgpbifgifaa.Load
open Go.RowKit Go.Shelf
attribute [local go_sem] Oper.semAt_some
set_option linter.unusedVariables false
set_option linter.unusedSimpArgs false

theorem step_keep {T : Nat → Bool} {z : Nat → Int} {b : Int} {x : Nat} (h : (T x && (b == -1 || decide (z b.toNat < z x))) = false) : stepB T z b x = b := by unfold stepB; rw [h]; simp
theorem step_take {T : Nat → Bool} {z : Nat → Int} {b : Int} {x : Nat} (h : (T x && (b == -1 || decide (z b.toNat < z x))) = true) : stepB T z b x = x := by unfold stepB; rw [h]; simp

/-- What the boxes hold between two rounds. -/
def BusI (T : Nat → Bool) (z : Nat → Int) {n : Nat} (v : Value) (mine : Int) (w : World) (pre : List (Fin n)) (W : World) : Prop :=
  (Boxed W w.heap.size 22 v ∧ Boxed W (w.heap.size + 1) 3 (.int .i64 mine) ∧ Boxed W (w.heap.size + 2) 3 (.int .i64 (best T z pre))) ∧ Below w.heap.size w W
theorem busI_own (T : Nat → Bool) (z : Nat → Int) {n : Nat} (v : Value) (mine : Int) (w : World) (B : Nat) (h : w.heap.size ≤ B) : OwnFrom B (BusI T z (n := n) v mine w) :=
  OwnFrom.and (OwnFrom.and (Own.from (boxed_own _ _ (fun _ => v)) _) (OwnFrom.and (Own.from (boxed_own _ _ (fun _ => .int .i64 mine)) _) (Own.from (boxed_own _ _ (fun pre => .int .i64 (best T z pre))) _))) (ownFrom_below (Nat.le_refl _) h)

set_option maxRecDepth 100000 in
set_option maxHeartbeats 4000000 in
theorem busiest_in (v : Option Addr) (len cap m N : Nat) (mine : Int) (z : Nat → Int) (w : World) (hm : m < 18446744073709551616) (HN : Hid (N = min len 64)) (hcap : len ≤ cap) (hnil : v = none → len = 0)
    (hz : Hid (∀ j, j < N → U64 (z j))) (hL : Hid (Lies v N z w)) :
    CallsIn Fence.wide 2 Try.prog 11 #[.slice v len cap, .int .i64 mine, .int .u64 m] w (OneB .i64 (bus z N mine m) w) := by
  refine callsIn_of_wp_marks Try.func11 rfl trivial ?_ rfl
  simp only [Try.ntmps11, List.size_toArray, List.length_cons, List.length_nil, Nat.reduceAdd, Nat.reduceSub, Array.replicate_succ, Array.replicate_zero, List.push_toArray, List.append_toArray, List.nil_append, List.cons_append]
  gi_wp2_with (refine ⟨trivial, ?_⟩; gi_at_call 22; refine (those _ v len cap m _).mono ?_; rintro e w' ⟨rfl, rfl⟩)
  obtain ⟨W0, hW0⟩ : ∃ W0, ((w.alloc (.cells #[.slice v len cap] 22)).alloc (.cells #[.int .i64 mine] 3)).alloc (.cells #[.int .i64 (-1)] 3) = W0 := ⟨_, rfl⟩
  have hs0 : W0.heap.size = w.heap.size + 3 := by rw [← hW0]; simp
  have hB0 : Below w.heap.size w W0 := by rw [← hW0]; exact (((Below.refl _ w).alloc (Nat.le_refl _) _).alloc (by simp) _).alloc (by simp; omega) _
  have x1 : Boxed W0 w.heap.size 22 (.slice v len cap) := by rw [← hW0]; exact ((Boxed.new w _ _).alloc _).alloc _
  have x2 : Boxed W0 (w.heap.size + 1) 3 (.int .i64 mine) := by
    rw [← hW0]
    have := Boxed.new (w.alloc (.cells #[.slice v len cap] 22)) 3 (.int .i64 mine)
    rw [World.size_alloc] at this
    exact this.alloc _
  have x3 : Boxed W0 (w.heap.size + 2) 3 (.int .i64 (-1)) := by
    rw [← hW0]
    have := Boxed.new ((w.alloc (.cells #[.slice v len cap] 22)).alloc (.cells #[.int .i64 mine] 3)) 3 (.int .i64 (-1))
    rw [World.size_alloc, World.size_alloc] at this
    exact this
  rw [hW0]
  have hs0' : (W0.alloc (.cells #[.slice v len cap] 22)).heap.size = w.heap.size + 4 := by simp; omega
  simp only [Nat.add_assoc, Nat.reduceAdd]
  have y1 : Boxed ((W0.alloc (.cells #[.slice v len cap] 22)).alloc (.cells #[.int .u64 m] 23)) (w.heap.size + 3) 22 (.slice v len cap) := by
    have := Boxed.new W0 22 (.slice v len cap)
    rw [hs0] at this
    exact this.alloc _
  have y2 : Boxed ((W0.alloc (.cells #[.slice v len cap] 22)).alloc (.cells #[.int .u64 m] 23)) (w.heap.size + 4) 23 (.int .u64 m) := by
    have := Boxed.new (W0.alloc (.cells #[.slice v len cap] 22)) 23 (.int .u64 m)
    rw [hs0'] at this
    exact this
  have hB1 : Below w.heap.size w ((W0.alloc (.cells #[.slice v len cap] 22)).alloc (.cells #[.int .u64 m] 23)) := (hB0.alloc (by omega) _).alloc (by simp; omega) _
  have z1 := (x1.alloc (.cells #[.slice v len cap] 22)).alloc (.cells #[.int .u64 m] 23)
  have z2 := (x2.alloc (.cells #[.slice v len cap] 22)).alloc (.cells #[.int .u64 m] 23)
  have z3 := (x3.alloc (.cells #[.slice v len cap] 22)).alloc (.cells #[.int .u64 m] 23)
  have hs1 : ((W0.alloc (.cells #[.slice v len cap] 22)).alloc (.cells #[.int .u64 m] 23)).heap.size = w.heap.size + 5 := by simp; omega
  clear x1 x2 x3 hW0 hB0 hs0 hs0'
  generalize (W0.alloc (.cells #[.slice v len cap] 22)).alloc (.cells #[.int .u64 m] 23) = V at *
  clear W0
  have HL1 : Hid (∀ j, j < N → ∃ b off, v = some ⟨b, off, none⟩ ∧ b < w.heap.size ∧ V.cell? ⟨b, off + j, none⟩ = some (.int .u64 (z j))) := Lib.hid fun j hj => by
    obtain ⟨b, o, e, hb, hc⟩ := hL.out j hj
    exact ⟨b, o, e, hb, (hB1.cell (p := ⟨b, o + j, none⟩) hb).trans hc⟩
  refine wpIn_rangeFunc_ownG (n := 2) rfl (by omega) (gf := 23) (lb := #[.pointer (some ⟨w.heap.size + 3, 0, none⟩), .pointer (some ⟨w.heap.size + 4, 0, none⟩)]) rfl trivial (enters_of Try.func23 (by kernel_rfl) rfl)
    (those_stops (2 - 1) (by omega) V w.heap.size (w.heap.size + 3) (w.heap.size + 4) v len cap m N z hm HN.out hcap hnil y1 y2 (by omega) hz HL1) keep_t (keep_b (by omega) (by omega)) (Below.refl _ _) (fun _ => rfl)
    (BusI (fun j => !((j : Int) == mine)) z (.slice v len cap) mine w) (fun _ _ _ => False) (busI_own _ _ _ _ _ _ (by omega)) (fun _ _ _ _ _ hs _ _ => hs)
    ⟨⟨z1, z2, z3⟩, hB1⟩
    (fun x => { tmps := #[.slice v len cap, .int .i64 mine, .int .u64 m, .pointer (some ⟨w.heap.size, 0, none⟩), .pointer (some ⟨w.heap.size + 1, 0, none⟩), undef, .int .i64 0, .pointer (some ⟨w.heap.size + 2, 0, none⟩), .int .i64 (x.1 : Int), .int .u64 (z x.1), .slice v len cap, .int .u64 m, .func (.func 23) #[] #[.pointer (some ⟨w.heap.size + 3, 0, none⟩), .pointer (some ⟨w.heap.size + 4, 0, none⟩)], .int .i64 (x.1 : Int), .int .u64 (z x.1), undef, undef, undef, undef, undef, undef, undef, undef, undef, undef, undef, undef, undef, undef, undef, undef, undef], defers := [] }) ?assign ?body ?done ?stop
  case assign =>
    intro l x W K hK
    gi_wp2
    exact hK
  case body =>
    rintro l pre x W ⟨⟨q1, q2, q3⟩, hB⟩ _
    have k1 := q1.cell
    have k2 := q2.cell
    have k3 := q3.cell
    have k4 := q3.frozen
    have HS := Lib.hid (best_snoc (fun j => !((j : Int) == mine)) z pre x)
    have HI : Hid (∀ b : Int, b = stepB (fun j => !((j : Int) == mine)) z (best (fun j => !((j : Int) == mine)) z pre) x.1 → BusI (fun j => !((j : Int) == mine)) z (.slice v len cap) mine w (pre ++ [x]) (W.setCell ⟨w.heap.size + 2, 0, none⟩ (.int .i64 b))) := Lib.hid fun b hb =>
      ⟨⟨q1.other (by omega) _, q2.other (by omega) _, by rw [HS.out, ← hb]; exact q3.set _⟩, hB.setCell (p := ⟨w.heap.size + 2, 0, none⟩) (by simp) _⟩
    have HJ : Hid (best (fun j => !((j : Int) == mine)) z pre = stepB (fun j => !((j : Int) == mine)) z (best (fun j => !((j : Int) == mine)) z pre) x.1 → BusI (fun j => !((j : Int) == mine)) z (.slice v len cap) mine w (pre ++ [x]) W) := Lib.hid fun hb =>
      ⟨⟨q1, q2, by rw [HS.out, ← hb]; exact q3⟩, hB⟩
    have HK : Hid (∀ b, Keep w.heap.size (w.heap.size + 4) W (W.setCell ⟨w.heap.size + 2, 0, none⟩ b)) := Lib.hid fun b => ⟨(Below.refl _ W).setCell (p := ⟨w.heap.size + 2, 0, none⟩) (by simp) _, Below.heap_setCell _ _ _ _ (by simp)⟩
    have hbd := best_bd (fun j => !((j : Int) == mine)) z pre
    generalize hb : best (fun j => !((j : Int) == mine)) z pre = b at *
    clear hb HS
    by_cases h1 : (x.1 : Int) = mine
    · have HT : Hid (b = stepB (fun j => !((j : Int) == mine)) z b x.1) := Lib.hid (step_keep (by simp [h1])).symm
      generalize z x.1 = y at *
      gi_wp2
      exact ⟨KeepsFrom.refl _ _, ⟨Below.refl _ _, rfl⟩, HJ.out HT.out⟩
    · rcases hbd with rfl | ⟨p, rfl, hp⟩
      · have HT : Hid ((x.1 : Int) = stepB (fun j => !((j : Int) == mine)) z (-1) x.1) := Lib.hid (step_take (by simp [h1])).symm
        generalize z x.1 = y at *
        gi_wp2
        exact ⟨(KeepsOthers.setCell _ _ _).from _, HK.out _, HI.out _ HT.out⟩
      · have h2 : ¬ (p : Int) = -1 := by omega
        have h2' : ((p : Int) == -1) = false := by simp
        obtain ⟨bb, o, rfl, hbl, hc⟩ := HL1.out p hp
        have hc2 := (hB.cell (p := ⟨bb, o + p, none⟩) hbl).trans ((hB1.cell (p := ⟨bb, o + p, none⟩) hbl).symm.trans hc)
        have h3 : (p : Int) < len := by have := HN.out; omega
        by_cases h4 : z p < z x.1
        · have HT : Hid ((x.1 : Int) = stepB (fun j => !((j : Int) == mine)) z p x.1) := Lib.hid (step_take (by simp [h1, h4])).symm
          generalize z x.1 = y at *
          generalize z p = u at *
          gi_wp2
          exact ⟨(KeepsOthers.setCell _ _ _).from _, HK.out _, HI.out _ HT.out⟩
        · have HT : Hid ((p : Int) = stepB (fun j => !((j : Int) == mine)) z p x.1) := Lib.hid (step_keep (by simp [h1]; omega)).symm
          generalize z x.1 = y at *
          generalize z p = u at *
          gi_wp2
          all_goals first | (exfalso; omega) | exact ⟨KeepsFrom.refl _ _, ⟨Below.refl _ _, rfl⟩, HJ.out HT.out⟩
  case done =>
    rintro D xs W hD rfl ⟨⟨q1, q2, q3⟩, hB⟩ hK
    have k3 := q3.cell
    have HA := Lib.hid (best_items (fun j => !((j : Int) == mine)) z m N N (Nat.le_refl _))
    gi_wp2
    refine ⟨by simp, .inl ⟨_, _, rfl, run_takeDeferred hK, ?_⟩⟩
    refine ⟨_, results_tmp rfl _ _ _, ?_⟩
    exact oneB_of HA.out (hB.trans (belowK_b (w := w) (Nat.le_refl _) W D _ _ (by omega) hK rfl rfl))
  case stop =>
    rintro D c pre W hD _ h hK
    exact h.elim
end Go.Proofs.Ytijocgpbifgifaa.Load
