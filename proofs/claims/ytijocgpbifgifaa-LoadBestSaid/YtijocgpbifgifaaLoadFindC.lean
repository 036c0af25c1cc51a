/- What load.Idle returns. Conditions: each argument is a number of its kind. -/
import Derived.Test.YtijocgpbifgifaaLoadFindB
namespace Go.Proofs.Ytijocgpbifgifaa.Load
open Go.RowKit Go.Shelf
attribute [local go_sem] Oper.semAt_some
set_option linter.unusedVariables false
set_option linter.unusedSimpArgs false

def IdlI (z : Nat → Int) {n : Nat} (w : World) (pre : List (Fin n)) (W : World) : Prop := (Boxed W w.heap.size 3 (.int .i64 0) ∧ ∀ q ∈ pre, z q.1 ≠ 0) ∧ Below w.heap.size w W
def IdlX (z : Nat → Int) {n : Nat} (w : World) (c : Code) (pre : List (Fin n)) (W : World) : Prop := (∃ pre' x, Boxed W w.heap.size 3 (.int .i64 (x.1 : Nat)) ∧ c = .ret ∧ pre = pre' ++ [x] ∧ z x.1 = 0 ∧ (∀ q ∈ pre', z q.1 ≠ 0)) ∧ Below w.heap.size w W
theorem idlI_own (z : Nat → Int) {n : Nat} (w : World) (B : Nat) (h : w.heap.size ≤ B) : OwnFrom B (IdlI z (n := n) w) :=
  OwnFrom.and (OwnFrom.and (Own.from (boxed_own _ _ (fun _ => .int .i64 0)) _) (ownFrom_pure _ _)) (ownFrom_below (Nat.le_refl _) h)
theorem idlX_own (z : Nat → Int) {n : Nat} (w : World) (B : Nat) (h : w.heap.size ≤ B) (c : Code) : OwnFrom B (IdlX z (n := n) w c) := fun s X Y row hs hg hr => by
  obtain ⟨⟨pre', x, hb, h1⟩, hB⟩ := hs
  exact ⟨⟨pre', x, boxed_own (β := Fin n) w.heap.size 3 (fun s => .int .i64 (s.1 : Nat)) x X Y row hb hg (fun r e => (hr r e).2), h1⟩, ownFrom_below (β := List (Fin n)) (Nat.le_refl _) h s X Y row hB hg hr⟩

set_option maxRecDepth 100000 in
set_option maxHeartbeats 4000000 in
theorem idle_in (v : Option Addr) (len cap m N : Nat) (z : Nat → Int) (w : World) (hm : m < 18446744073709551616) (HN : Hid (N = min len 64)) (hcap : len ≤ cap) (hnil : v = none → len = 0)
    (hz : Hid (∀ j, j < N → U64 (z j))) (hL : Hid (Lies v N z w)) :
    CallsIn Fence.wide 2 Try.prog 15 #[.slice v len cap, .int .u64 m] w (OneB .i64 (idl z N m) w) := by
  refine callsIn_of_wp_marks Try.func15 rfl trivial ?_ rfl
  simp only [Try.ntmps15, List.size_toArray, List.length_cons, List.length_nil, Nat.reduceAdd, Nat.reduceSub, Array.replicate_succ, Array.replicate_zero, List.push_toArray, List.append_toArray, List.nil_append, List.cons_append]
  gi_wp2_with (refine ⟨trivial, ?_⟩; gi_at_call 22; refine (those _ v len cap m _).mono ?_; rintro e w' ⟨rfl, rfl⟩)
  obtain ⟨W0, hW0⟩ : ∃ W0, w.alloc (.cells #[.int .i64 0] 3) = W0 := ⟨_, rfl⟩
  have hs0 : W0.heap.size = w.heap.size + 1 := by rw [← hW0]; simp
  have hB0 : Below w.heap.size w W0 := by rw [← hW0]; exact (Below.refl _ w).alloc (Nat.le_refl _) _
  have x1 : Boxed W0 w.heap.size 3 (.int .i64 0) := by rw [← hW0]; exact Boxed.new w _ _
  rw [hW0]
  have hs0' : (W0.alloc (.cells #[.slice v len cap] 22)).heap.size = w.heap.size + 2 := by simp; omega
  simp only [Nat.add_assoc, Nat.reduceAdd]
  have y1 : Boxed ((W0.alloc (.cells #[.slice v len cap] 22)).alloc (.cells #[.int .u64 m] 23)) (w.heap.size + 1) 22 (.slice v len cap) := by
    have := Boxed.new W0 22 (.slice v len cap)
    rw [hs0] at this
    exact this.alloc _
  have y2 : Boxed ((W0.alloc (.cells #[.slice v len cap] 22)).alloc (.cells #[.int .u64 m] 23)) (w.heap.size + 2) 23 (.int .u64 m) := by
    have := Boxed.new (W0.alloc (.cells #[.slice v len cap] 22)) 23 (.int .u64 m)
    rw [hs0'] at this
    exact this
  have hB1 : Below w.heap.size w ((W0.alloc (.cells #[.slice v len cap] 22)).alloc (.cells #[.int .u64 m] 23)) := (hB0.alloc (by omega) _).alloc (by simp; omega) _
  have z1 := (x1.alloc (.cells #[.slice v len cap] 22)).alloc (.cells #[.int .u64 m] 23)
  have hs1 : ((W0.alloc (.cells #[.slice v len cap] 22)).alloc (.cells #[.int .u64 m] 23)).heap.size = w.heap.size + 3 := by simp; omega
  clear x1 hW0 hB0 hs0 hs0'
  generalize (W0.alloc (.cells #[.slice v len cap] 22)).alloc (.cells #[.int .u64 m] 23) = V at *
  clear W0
  have HL1 : Hid (∀ j, j < N → ∃ b off, v = some ⟨b, off, none⟩ ∧ b < w.heap.size ∧ V.cell? ⟨b, off + j, none⟩ = some (.int .u64 (z j))) := Lib.hid fun j hj => by
    obtain ⟨b, o, e, hb, hc⟩ := hL.out j hj
    exact ⟨b, o, e, hb, (hB1.cell (p := ⟨b, o + j, none⟩) hb).trans hc⟩
  refine wpIn_rangeFunc_ownG (n := 2) rfl (by omega) (gf := 23) (lb := #[.pointer (some ⟨w.heap.size + 1, 0, none⟩), .pointer (some ⟨w.heap.size + 2, 0, none⟩)]) rfl trivial (enters_of Try.func23 (by kernel_rfl) rfl)
    (those_stops (2 - 1) (by omega) V w.heap.size (w.heap.size + 1) (w.heap.size + 2) v len cap m N z hm HN.out hcap hnil y1 y2 (by omega) hz HL1) keep_t (keep_b (by omega) (by omega)) (Below.refl _ _) (fun _ => rfl)
    (IdlI z w) (IdlX z w) (idlI_own _ _ _ (by omega)) (idlX_own _ _ _ (by omega))
    ⟨⟨z1, by simp⟩, hB1⟩
    (fun x => { tmps := #[.slice v len cap, .int .u64 m, undef, undef, .pointer (some ⟨w.heap.size, 0, none⟩), .int .i64 (x.1 : Int), .int .u64 (z x.1), .slice v len cap, .int .u64 m, .func (.func 23) #[] #[.pointer (some ⟨w.heap.size + 1, 0, none⟩), .pointer (some ⟨w.heap.size + 2, 0, none⟩)], .int .i64 (x.1 : Int), .int .u64 (z x.1), undef, undef, undef], defers := [] }) ?assign ?body ?done ?stop
  case assign =>
    intro l x W K hK
    gi_wp2
    exact hK
  case body =>
    rintro l pre x W ⟨⟨q1, hall⟩, hB⟩ _
    have k1 := q1.cell
    have k4 := q1.frozen
    have HA := Lib.hid hall
    clear hall
    by_cases h1 : z x.1 = 0
    · have HX : Hid (IdlX z w .ret (pre ++ [x]) (W.setCell ⟨w.heap.size, 0, none⟩ (.int .i64 (x.1 : Nat)))) := Lib.hid ⟨⟨pre, x, q1.set _, rfl, rfl, h1, HA.out⟩, hB.setCell (p := ⟨w.heap.size, 0, none⟩) (by simp) _⟩
      generalize z x.1 = y at *
      gi_wp2
      exact ⟨(KeepsOthers.setCell _ _ _).from _, HX.out⟩
    · have HX : Hid (IdlI z w (pre ++ [x]) W) := Lib.hid ⟨⟨q1, fun q hq => by
        rcases List.mem_append.1 hq with h | h
        · exact HA.out q h
        · obtain rfl : q = x := by simpa using h
          exact h1⟩, hB⟩
      generalize z x.1 = y at *
      gi_wp2
      exact ⟨KeepsFrom.refl _ _, ⟨Below.refl _ _, rfl⟩, HX.out⟩
  case done =>
    rintro D xs W hD rfl ⟨⟨q1, hall⟩, hB⟩ hK
    have k1 := q1.cell
    have k4 := q1.frozen
    have HA := Lib.hid (idl_none z m N hall)
    clear hall
    have q5 := q1.set (.int .i64 (-1))
    have hK2 := (KeepsOthers.setCell W ⟨w.heap.size, 0, none⟩ (.int .i64 (-1))).same D _ hK rfl
    have hB2 := hB.setCell (p := ⟨w.heap.size, 0, none⟩) (by simp) (.int .i64 (-1))
    gi_wp2
    refine ⟨by simp, .inl ⟨_, _, rfl, run_takeDeferred hK2, ?_⟩⟩
    have hcell := cell_kept q5.cell (grownBy_putObj' _ D (.deferred none)) (fun r e => by cases e; exact ⟨_, hK2, rfl⟩)
    refine ⟨.int .i64 (-1), by simp [results, Try.results15, go_sem, hcell], ?_⟩
    exact oneB_of HA.out (hB2.trans (belowK_b (w := w) (Nat.le_refl _) _ D _ _ (by omega) hK2 rfl rfl))
  case stop =>
    rintro D c pre W hD ⟨k, hk, rfl⟩ ⟨⟨pre', x, q1, rfl, e, hp, hq⟩, hB⟩ hK
    have HA := Lib.hid (idl_part z m N k pre' x e hp hq)
    clear e hp hq
    have k1 := q1.cell
    gi_wp2
    refine ⟨by simp, .inl ⟨_, _, rfl, run_takeDeferred hK, ?_⟩⟩
    have hcell := cell_kept q1.cell (grownBy_putObj' _ D (.deferred none)) (fun r e => by cases e; exact ⟨_, hK, rfl⟩)
    refine ⟨.int .i64 (x.1 : Nat), by simp [results, Try.results15, go_sem, hcell], ?_⟩
    exact oneB_of HA.out (hB.trans (belowK_b (w := w) (Nat.le_refl _) W D _ _ (by omega) hK rfl rfl))

theorem may_far {m j : Nat} (h : 64 ≤ j) : may m j = false := by unfold may; rw [decide_eq_false (by omega)]; rfl
theorem bus_min (z : Nat → Int) (n : Nat) (mine : Int) (m : Nat) : bus z (min n 64) mine m = bus z n mine m := (pick_more _ _ _ _ (by omega) (fun j h1 h2 => by rw [may_far (by omega)]; rfl)).symm
theorem lea_min (z : Nat → Int) (n m : Nat) : lea z (min n 64) m = lea z n m := (pick_more _ _ _ _ (by omega) (fun j h1 h2 => may_far (by omega))).symm
theorem idl_min (z : Nat → Int) (n m : Nat) : idl z (min n 64) m = idl z n m := (pick_more _ _ _ _ (by omega) (fun j h1 h2 => by rw [may_far (by omega)]; rfl)).symm

/-- A slice that came in: its numbers, that it has room for them, and that nil has none. -/
structure In (v : Option Addr) (n cap : Nat) (z : Nat → Int) (w : World) : Prop where
  lies : Lies v n z w
  nums : ∀ j, j < n → U64 (z j)
  room : n ≤ cap
  nils : v = none → n = 0
theorem In.fresh {v : Option Addr} {n cap : Nat} {z : Nat → Int} {w w' : World} (h : In v n cap z w) (hg : Below w.heap.size w w') : In v n cap z w' := ⟨h.lies.fresh hg, h.nums, h.room, h.nils⟩

theorem busiest (v : Option Addr) (n cap m : Nat) (mine : Int) (z : Nat → Int) (w : World) (hm : m < 18446744073709551616) (h : In v n cap z w) :
    Calls Try.prog 11 #[.slice v n cap, .int .i64 mine, .int .u64 m] w (OneB .i64 (bus z n mine m) w) := by
  rw [← bus_min]
  exact callsIn_wide.1 (busiest_in v n cap m _ mine z w hm (Lib.hid rfl) h.room h.nils (Lib.hid fun j hj => h.nums j (by omega)) (Lib.hid (h.lies.less (by omega))))
theorem least (v : Option Addr) (n cap m : Nat) (z : Nat → Int) (w : World) (hm : m < 18446744073709551616) (h : In v n cap z w) :
    Calls Try.prog 13 #[.slice v n cap, .int .u64 m] w (OneB .i64 (lea z n m) w) := by
  rw [← lea_min]
  exact callsIn_wide.1 (least_in v n cap m _ z w hm (Lib.hid rfl) h.room h.nils (Lib.hid fun j hj => h.nums j (by omega)) (Lib.hid (h.lies.less (by omega))))
theorem idle (v : Option Addr) (n cap m : Nat) (z : Nat → Int) (w : World) (hm : m < 18446744073709551616) (h : In v n cap z w) :
    Calls Try.prog 15 #[.slice v n cap, .int .u64 m] w (OneB .i64 (idl z n m) w) := by
  rw [← idl_min]
  exact callsIn_wide.1 (idle_in v n cap m _ z w hm (Lib.hid rfl) h.room h.nils (Lib.hid fun j hj => h.nums j (by omega)) (Lib.hid (h.lies.less (by omega))))
end Go.Proofs.Ytijocgpbifgifaa.Load
