/- What load.Least returns. Conditions: each argument is a number of its kind. -/
import Derived.Test.YtlbaiblhoojehaaLoadThose
namespace Go.Proofs.Ytlbaiblhoojehaa.Load
open Go.RowKit Go.Shelf
attribute [local go_sem] Oper.semAt_some
set_option linter.unusedVariables false
set_option linter.unusedSimpArgs false

theorem step_keep {T : Nat → Bool} {z : Nat → Int} {b : Int} {x : Nat} (h : (T x && (b == -1 || decide (z b.toNat < z x))) = false) : stepB T z b x = b := by unfold stepB; rw [h]; simp
theorem step_take {T : Nat → Bool} {z : Nat → Int} {b : Int} {x : Nat} (h : (T x && (b == -1 || decide (z b.toNat < z x))) = true) : stepB T z b x = x := by unfold stepB; rw [h]; simp

def LeaI (z : Nat → Int) {n : Nat} (v : Value) (w : World) (pre : List (Fin n)) (W : World) : Prop :=
  (Boxed W w.heap.size 22 v ∧ Boxed W (w.heap.size + 1) 3 (.int .i64 (best (fun _ => true) (fun j => - z j) pre))) ∧ Below w.heap.size w W
theorem leaI_own (z : Nat → Int) {n : Nat} (v : Value) (w : World) (B : Nat) (h : w.heap.size ≤ B) : OwnFrom B (LeaI z (n := n) v w) :=
  OwnFrom.and (OwnFrom.and (Own.from (boxed_own _ _ (fun _ => v)) _) (Own.from (boxed_own _ _ (fun pre => .int .i64 (best (fun _ => true) (fun j => - z j) pre))) _)) (ownFrom_below (Nat.le_refl _) h)
theorem lea_eq (z : Nat → Int) (n m : Nat) : pick (fun j => may m j && true) (fun j => - z j) n = lea z n m := pick_congr (fun j _ => by simp) (fun _ _ => rfl)

set_option maxRecDepth 100000 in
set_option maxHeartbeats 4000000 in
theorem least_in (v : Option Addr) (len cap m N : Nat) (z : Nat → Int) (w : World) (hm : m < 18446744073709551616) (HN : Hid (N = min len 64)) (hcap : len ≤ cap) (hnil : v = none → len = 0)
    (hz : Hid (∀ j, j < N → U64 (z j))) (hL : Hid (Lies v N z w)) :
    CallsIn Fence.wide 2 Try.prog 17 #[.slice v len cap, .int .u64 m] w (OneB .i64 (lea z N m) w) := by
  refine callsIn_of_wp_marks Try.func17 rfl trivial ?_ rfl
  simp only [Try.ntmps17, List.size_toArray, List.length_cons, List.length_nil, Nat.reduceAdd, Nat.reduceSub, Array.replicate_succ, Array.replicate_zero, List.push_toArray, List.append_toArray, List.nil_append, List.cons_append]
  gi_wp2_with (refine ⟨trivial, ?_⟩; gi_at_call 22; refine (those _ v len cap m _).mono ?_; rintro e w' ⟨rfl, rfl⟩)
  obtain ⟨W0, hW0⟩ : ∃ W0, (w.alloc (.cells #[.slice v len cap] 22)).alloc (.cells #[.int .i64 (-1)] 3) = W0 := ⟨_, rfl⟩
  have hs0 : W0.heap.size = w.heap.size + 2 := by rw [← hW0]; simp
  have hB0 : Below w.heap.size w W0 := by rw [← hW0]; exact ((Below.refl _ w).alloc (Nat.le_refl _) _).alloc (by simp) _
  have x1 : Boxed W0 w.heap.size 22 (.slice v len cap) := by rw [← hW0]; exact (Boxed.new w _ _).alloc _
  have x3 : Boxed W0 (w.heap.size + 1) 3 (.int .i64 (-1)) := by
    rw [← hW0]
    have := Boxed.new (w.alloc (.cells #[.slice v len cap] 22)) 3 (.int .i64 (-1))
    rw [World.size_alloc] at this
    exact this
  rw [hW0]
  have hs0' : (W0.alloc (.cells #[.slice v len cap] 22)).heap.size = w.heap.size + 3 := by simp; omega
  simp only [Nat.add_assoc, Nat.reduceAdd]
  have y1 : Boxed ((W0.alloc (.cells #[.slice v len cap] 22)).alloc (.cells #[.int .u64 m] 24)) (w.heap.size + 2) 22 (.slice v len cap) := by
    have := Boxed.new W0 22 (.slice v len cap)
    rw [hs0] at this
    exact this.alloc _
  have y2 : Boxed ((W0.alloc (.cells #[.slice v len cap] 22)).alloc (.cells #[.int .u64 m] 24)) (w.heap.size + 3) 24 (.int .u64 m) := by
    have := Boxed.new (W0.alloc (.cells #[.slice v len cap] 22)) 24 (.int .u64 m)
    rw [hs0'] at this
    exact this
  have hB1 : Below w.heap.size w ((W0.alloc (.cells #[.slice v len cap] 22)).alloc (.cells #[.int .u64 m] 24)) := (hB0.alloc (by omega) _).alloc (by simp; omega) _
  have z1 := (x1.alloc (.cells #[.slice v len cap] 22)).alloc (.cells #[.int .u64 m] 24)
  have z3 := (x3.alloc (.cells #[.slice v len cap] 22)).alloc (.cells #[.int .u64 m] 24)
  have hs1 : ((W0.alloc (.cells #[.slice v len cap] 22)).alloc (.cells #[.int .u64 m] 24)).heap.size = w.heap.size + 4 := by simp; omega
  clear x1 x3 hW0 hB0 hs0 hs0'
  generalize (W0.alloc (.cells #[.slice v len cap] 22)).alloc (.cells #[.int .u64 m] 24) = V at *
  clear W0
  have HL1 : Hid (∀ j, j < N → ∃ b off, v = some ⟨b, off, none⟩ ∧ b < w.heap.size ∧ V.cell? ⟨b, off + j, none⟩ = some (.int .u64 (z j))) := Lib.hid fun j hj => by
    obtain ⟨b, o, e, hb, hc⟩ := hL.out j hj
    exact ⟨b, o, e, hb, (hB1.cell (p := ⟨b, o + j, none⟩) hb).trans hc⟩
  refine wpIn_rangeFunc_ownG (n := 2) rfl (by omega) (gf := 25) (lb := #[.pointer (some ⟨w.heap.size + 2, 0, none⟩), .pointer (some ⟨w.heap.size + 3, 0, none⟩)]) rfl trivial (enters_of Try.func25 (by kernel_rfl) rfl)
    (those_stops (2 - 1) (by omega) V w.heap.size (w.heap.size + 2) (w.heap.size + 3) v len cap m N z hm HN.out hcap hnil y1 y2 (by omega) hz HL1) keep_t (keep_b (by omega) (by omega)) (Below.refl _ _) (fun _ => rfl)
    (LeaI z (.slice v len cap) w) (fun _ _ _ => False) (leaI_own _ _ _ _ (by omega)) (fun _ _ _ _ _ hs _ _ => hs)
    ⟨⟨z1, z3⟩, hB1⟩
    (fun x => { tmps := #[.slice v len cap, .int .u64 m, .pointer (some ⟨w.heap.size, 0, none⟩), undef, .int .i64 0, .pointer (some ⟨w.heap.size + 1, 0, none⟩), .int .i64 (x.1 : Int), .int .u64 (z x.1), .slice v len cap, .int .u64 m, .func (.func 25) #[] #[.pointer (some ⟨w.heap.size + 2, 0, none⟩), .pointer (some ⟨w.heap.size + 3, 0, none⟩)], .int .i64 (x.1 : Int), .int .u64 (z x.1), undef, undef, undef, undef, undef, undef, undef, undef, undef, undef, undef, undef], defers := [] }) ?assign ?body ?done ?stop
  case assign =>
    intro l x W K hK
    gi_wp2
    exact hK
  case body =>
    rintro l pre x W ⟨⟨q1, q3⟩, hB⟩ _
    have k1 := q1.cell
    have k3 := q3.cell
    have k4 := q3.frozen
    have HS := Lib.hid (best_snoc (fun _ => true) (fun j => - z j) pre x)
    have HI : Hid (∀ b : Int, b = stepB (fun _ => true) (fun j => - z j) (best (fun _ => true) (fun j => - z j) pre) x.1 → LeaI z (.slice v len cap) w (pre ++ [x]) (W.setCell ⟨w.heap.size + 1, 0, none⟩ (.int .i64 b))) := Lib.hid fun b hb =>
      ⟨⟨q1.other (by omega) _, by rw [HS.out, ← hb]; exact q3.set _⟩, hB.setCell (p := ⟨w.heap.size + 1, 0, none⟩) (by simp) _⟩
    have HJ : Hid (best (fun _ => true) (fun j => - z j) pre = stepB (fun _ => true) (fun j => - z j) (best (fun _ => true) (fun j => - z j) pre) x.1 → LeaI z (.slice v len cap) w (pre ++ [x]) W) := Lib.hid fun hb =>
      ⟨⟨q1, by rw [HS.out, ← hb]; exact q3⟩, hB⟩
    have HK : Hid (∀ b, Keep w.heap.size (w.heap.size + 3) W (W.setCell ⟨w.heap.size + 1, 0, none⟩ b)) := Lib.hid fun b => ⟨(Below.refl _ W).setCell (p := ⟨w.heap.size + 1, 0, none⟩) (by simp) _, Below.heap_setCell _ _ _ _ (by simp)⟩
    have hbd := best_bd (fun _ => true) (fun j => - z j) pre
    generalize hb : best (fun _ => true) (fun j => - z j) pre = b at *
    clear hb HS
    rcases hbd with rfl | ⟨p, rfl, hp⟩
    · have HT : Hid ((x.1 : Int) = stepB (fun _ => true) (fun j => - z j) (-1) x.1) := Lib.hid (step_take (by simp)).symm
      generalize z x.1 = y at *
      gi_wp2
      exact ⟨(KeepsOthers.setCell _ _ _).from _, HK.out _, HI.out _ HT.out⟩
    · have h2 : ¬ (p : Int) = -1 := by omega
      have h2' : ((p : Int) == -1) = false := by simp
      obtain ⟨bb, o, rfl, hbl, hc⟩ := HL1.out p hp
      have hc2 := (hB.cell (p := ⟨bb, o + p, none⟩) hbl).trans ((hB1.cell (p := ⟨bb, o + p, none⟩) hbl).symm.trans hc)
      have h3 : (p : Int) < len := by have := HN.out; omega
      by_cases h4 : z x.1 < z p
      · have HT : Hid ((x.1 : Int) = stepB (fun _ => true) (fun j => - z j) p x.1) := Lib.hid (step_take (by simp; omega)).symm
        generalize z x.1 = y at *
        generalize z p = u at *
        gi_wp2
        exact ⟨(KeepsOthers.setCell _ _ _).from _, HK.out _, HI.out _ HT.out⟩
      · have HT : Hid ((p : Int) = stepB (fun _ => true) (fun j => - z j) p x.1) := Lib.hid (step_keep (by simp; omega)).symm
        generalize z x.1 = y at *
        generalize z p = u at *
        gi_wp2
        all_goals first | (exfalso; omega) | exact ⟨KeepsFrom.refl _ _, ⟨Below.refl _ _, rfl⟩, HJ.out HT.out⟩
  case done =>
    rintro D xs W hD rfl ⟨⟨q1, q3⟩, hB⟩ hK
    have k3 := q3.cell
    have HA := Lib.hid (best_items (fun _ => true) (fun j => - z j) m N N (Nat.le_refl _))
    gi_wp2
    refine ⟨by simp, .inl ⟨_, _, rfl, run_takeDeferred hK, ?_⟩⟩
    refine ⟨_, results_tmp rfl _ _ _, ?_⟩
    exact oneB_of (HA.out.trans (lea_eq _ _ _)) (hB.trans (belowK_b (w := w) (Nat.le_refl _) W D _ _ (by omega) hK rfl rfl))
  case stop =>
    rintro D c pre W hD _ h hK
    exact h.elim

theorem may_far {m j : Nat} (h : 64 ≤ j) : may m j = false := by unfold may; rw [decide_eq_false (by omega)]; rfl
theorem lea_min (z : Nat → Int) (n m : Nat) : lea z (min n 64) m = lea z n m := (pick_more _ _ _ _ (by omega) (fun j h1 h2 => may_far (by omega))).symm
/-- A slice that came in: its numbers, that it has room for them, and that nil has none. -/
structure In (v : Option Addr) (n cap : Nat) (z : Nat → Int) (w : World) : Prop where
  lies : Lies v n z w
  nums : ∀ j, j < n → U64 (z j)
  room : n ≤ cap
  nils : v = none → n = 0
theorem In.fresh {v : Option Addr} {n cap : Nat} {z : Nat → Int} {w w' : World} (h : In v n cap z w) (hg : Below w.heap.size w w') : In v n cap z w' := ⟨h.lies.fresh hg, h.nums, h.room, h.nils⟩

theorem In.less {v : Option Addr} {n k cap : Nat} {z : Nat → Int} {w : World} (h : In v n cap z w) (hk : k ≤ n) : In v k cap z w := ⟨h.lies.less hk, fun j hj => h.nums j (by omega), by have := h.room; omega, fun e => by have := h.nils e; omega⟩
theorem least (v : Option Addr) (n cap m : Nat) (z : Nat → Int) (w : World) (hm : m < 18446744073709551616) (h : In v n cap z w) :
    Calls Try.prog 17 #[.slice v n cap, .int .u64 m] w (OneB .i64 (lea z n m) w) := by
  rw [← lea_min]
  exact callsIn_wide.1 (least_in v n cap m _ z w hm (Lib.hid rfl) h.room h.nils (Lib.hid fun j hj => h.nums j (by omega)) (Lib.hid (h.lies.less (by omega))))
end Go.Proofs.Ytlbaiblhoojehaa.Load
