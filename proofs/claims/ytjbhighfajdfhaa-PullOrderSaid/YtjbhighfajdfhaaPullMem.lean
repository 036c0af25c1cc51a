/- Slices of tasks in memory; what package pull's and the document's small functions return. Conditions: each argument is a number of its kind. -/
import Derived.Test.YtjbhighfajdfhaaChecked
import Derived.Test.YtjbhighfajdfhaaPullPlain
import Derived.WalkKit
import Derived.ProofKit
import Derived.Below
import Derived.Carry
import Derived.WalkMore
import Derived.WalkSmall
import Derived.LoopTactic
import Derived.Deep.LoopGhost
import Derived.Lib.Hide
import Derived.Maps.AppendAt
import Derived.Deep.AppendLies
import Derived.Deep.QuietTactic
namespace Go.Proofs.Ytjbhighfajdfhaa.Pull
open Go.ChangeShapes Go.WideShapes Go.ChangeAt Go.RowKit Load
set_option linter.unusedVariables false
set_option linter.unusedSimpArgs false
attribute [local irreducible] Go.wpQuiet

theorem fresh_trans {a b c : World} (h : Below a.heap.size a b) (k : Below b.heap.size b c) : Below a.heap.size a c := h.trans (k.mono h.size)
theorem drawn {w w' : World} {n : Nat} (h : Below n w w') (k : Nat) : Below n w (w'.drewN k) := h.trans ⟨rfl, rfl, rfl, Nat.le_refl _, fun _ _ => rfl⟩
theorem drew1 {w w' : World} {n : Nat} (h : Below n w w') : Below n w w'.drew := h.trans ⟨rfl, rfl, rfl, Nat.le_refl _, fun _ _ => rfl⟩
theorem lt_of {w : World} {k : Nat} {o : Obj} (h : w.heap[k]? = some o) : k < w.heap.size := (Array.getElem?_eq_some_iff.1 h).1
theorem alloc1 (w : World) (o : Obj) : Below w.heap.size w (w.alloc o) := (Below.refl _ w).alloc (Nat.le_refl _) o
theorem block_fresh {w w' : World} {k : Nat} {o : Obj} (h : w.heap[k]? = some o) (hg : Below w.heap.size w w') : w'.heap[k]? = some o := (hg.block k (lt_of h)).trans h
theorem cell_fresh {w w' : World} {a : Addr} {v : Value} (h : w.cell? a = some v) (hg : Below w.heap.size w w') : w'.cell? a = some v := (hg.cell (World.block_lt_of_cell? w a h)).trans h
theorem cell_of_row (w : World) (g : Nat) (cur : Array Value) (e : TypeId) (q : Nat × Nat) (j : Nat) (h : w.heap[g]? = some (.cells cur e q)) : w.cell? ⟨g, j, none⟩ = cur[j]? := by simp [World.cell?, h]
theorem four {w : World} {b : Nat} {a0 a1 a2 a3 : Value} {t : TypeId} (hb : w.heap[b]? = some (.cells #[a0, a1, a2, a3] t (0, 0))) :
    w.cell? ⟨b, 0, none⟩ = some a0 ∧ w.cell? ⟨b, 1, none⟩ = some a1 ∧ w.cell? ⟨b, 2, none⟩ = some a2 ∧ w.cell? ⟨b, 3, none⟩ = some a3 ∧ (∀ j, w.frozen? ⟨b, j, none⟩ = false) := by
  refine ⟨?_, ?_, ?_, ?_, fun j => frozen_of_row w b j _ _ hb⟩
  all_goals rw [cell_of_row w b _ _ _ _ hb]; rfl

/-- A task as a value. -/
abbrev vCd (c : Cd) : Value := .agg #[.int .i64 c.id, .int .u64 c.wt, .int .u64 (c.ms : Int), .bool c.rn]
/-- A slice of tasks, C 0 to C (n - 1). -/
def Cs (v : Option Addr) (n : Nat) (C : Nat → Cd) (w : World) : Prop := ∀ j, j < n → ∃ b off, v = some ⟨b, off, none⟩ ∧ b < w.heap.size ∧
  w.cell? ⟨b, off + j * 4, none⟩ = some (.int .i64 (C j).id) ∧ w.cell? ⟨b, off + j * 4 + 1, none⟩ = some (.int .u64 (C j).wt) ∧ w.cell? ⟨b, off + j * 4 + 2, none⟩ = some (.int .u64 ((C j).ms : Int)) ∧ w.cell? ⟨b, off + j * 4 + 3, none⟩ = some (.bool (C j).rn)
theorem Cs.fresh {v : Option Addr} {n : Nat} {C : Nat → Cd} {w w' : World} (h : Cs v n C w) (hg : Below w.heap.size w w') : Cs v n C w' := by
  intro j hj
  obtain ⟨b, o, e, hb, h0, h1, h2, h3⟩ := h j hj
  exact ⟨b, o, e, by have := hg.size; omega, cell_fresh h0 hg, cell_fresh h1 hg, cell_fresh h2 hg, cell_fresh h3 hg⟩
theorem Cs.less {v : Option Addr} {n k : Nat} {C : Nat → Cd} {w : World} (h : Cs v n C w) (hn : k ≤ n) : Cs v k C w := fun j hj => h j (by omega)
theorem Cs.congr {v : Option Addr} {n : Nat} {C D : Nat → Cd} {w : World} (h : Cs v n C w) (hd : ∀ j, j < n → C j = D j) : Cs v n D w := by
  intro j hj
  have := h j hj
  rwa [hd j hj] at this

/-- A value told; the world is as it was, or has grown. -/
def Is (v : Value) (w : World) (e : Ending) (w' : World) : Prop := e = .returned v ∧ w' = w
def IsG (v : Value) (w : World) (e : Ending) (w' : World) : Prop := e = .returned v ∧ Below w.heap.size w w'
theorem is_of {u v : Value} {w : World} (h : u = v) : Is v w (.returned u) w := by subst h; exact ⟨rfl, rfl⟩
theorem isG_of {u v : Value} {w w' : World} (h : u = v) (g : Below w.heap.size w w') : IsG v w (.returned u) w' := by subst h; exact ⟨rfl, g⟩

theorem allowed (m : Nat) (p : Int) (w : World) (hm : m < 18446744073709551616) :
    Calls Try.prog 25 #[.int .u64 (m : Int), .int .i64 p] w (Is (.bool (allow m p)) w) := by
  by_cases h0 : 0 ≤ p
  · obtain ⟨k, rfl⟩ : ∃ k : Nat, p = k := ⟨p.toNat, by omega⟩
    rw [allow_at]
    by_cases h2 : k < 64
    · have h2' : (k : Int) < 64 := by omega
      have HB := bit_may m k hm h2
      generalize may m k = b at *
      go_enter Try.func25, Try.ntmps25
      go_wp2
      go_ret
      exact ⟨rfl, rfl⟩
    · have h2' : ¬ (k : Int) < 64 := by omega
      have e : may m k = false := by unfold may; rw [decide_eq_false h2]; rfl
      rw [e]
      go_enter Try.func25, Try.ntmps25
      go_wp2
      go_ret
      exact ⟨rfl, rfl⟩
  · have e : allow m p = false := by unfold allow; rw [decide_eq_false h0]; rfl
    rw [e]
    go_enter Try.func25, Try.ntmps25
    go_wp2
    go_ret
    exact ⟨rfl, rfl⟩

theorem mays (c : Cd) (g p : Int) (w : World) (hc : c.Ok) :
    Calls Try.prog 16 #[vCd c, .int .u64 g, .int .i64 p] w (IsG (.bool (mayc c g p)) w) := by
  have AL := Lib.hid (fun w' => allowed c.ms p w' hc.ms1)
  obtain ⟨_, _, a0, _, _⟩ := hc
  obtain ⟨i, wt, ms, rn⟩ := c
  unfold mayc vCd
  simp only at *
  generalize allow ms p = b at *
  have hg := alloc1 w (.cells #[.int .i64 i, .int .u64 wt, .int .u64 (ms : Int), .bool rn] 35 (0, 0))
  obtain ⟨c0, c1, c2, c3, cz⟩ := four (heap_alloc_new w (.cells #[.int .i64 i, .int .u64 wt, .int .u64 (ms : Int), .bool rn] 35 (0, 0)))
  cases b <;> cases rn <;> by_cases h1 : 0 < wt <;> by_cases h2 : wt < g
  all_goals
    go_enter Try.func16, Try.ntmps16
    go_wp2_with (go_at_call 25; refine (AL.out _).mono ?_; rintro e w1 ⟨rfl, hw⟩; replace hw := hw.symm; subst hw)
    go_ret
    exact isG_of (by simp [h1, h2]) hg

theorem isI_of {k : IntKind} {a b : Int} {w : World} (h : a = b) : Is (.int k b) w (.returned (.int k a)) w := by subst h; exact ⟨rfl, rfl⟩
theorem gaps (a b : Int) (w : World) (ha : U64 a) (hb : U64 b) : Calls Try.prog 19 #[.int .u64 a, .int .u64 b] w (Is (.int .u64 (gap a b)) w) := by
  unfold U64 at ha hb
  go_enter Try.func19, Try.ntmps19
  go_wp2
  all_goals (go_ret; exact isI_of (by unfold gap; repeat' split <;> omega))

/-- A slice of numbers, z 0 to z (len - 1). -/
def Lies (v : Option Addr) (len : Nat) (z : Nat → Int) (w : World) : Prop := ∀ j, j < len → ∃ b off, v = some ⟨b, off, none⟩ ∧ b < w.heap.size ∧ w.cell? ⟨b, off + j, none⟩ = some (.int .u64 (z j))
theorem Lies.fresh {v : Option Addr} {len : Nat} {z : Nat → Int} {w w' : World} (h : Lies v len z w) (hg : Below w.heap.size w w') : Lies v len z w' := by
  intro j hj
  obtain ⟨b, o, e, hb, hc⟩ := h j hj
  exact ⟨b, o, e, by have := hg.size; omega, (hg.cell hb).trans hc⟩
theorem Lies.less {v : Option Addr} {len n : Nat} {z : Nat → Int} {w : World} (h : Lies v len z w) (hn : n ≤ len) : Lies v n z w := fun j hj => h j (by omega)

def SumI (z : Nat → Int) (len : Nat) (w : World) (t3 t8 : Value) (wr : World) : Prop := ∃ k : Nat, k ≤ len ∧ t3 = .int .u64 (tot z k) ∧ t8 = .int .i64 k ∧ wr = w
theorem sums (v : Option Addr) (len cap : Nat) (z : Nat → Int) (w : World) (hlen : len ≤ 9223372036854775807) (HZ : Hid (∀ j, j < len → U64 (z j))) (HC : Hid (Lies v len z w)) :
    Calls Try.prog 23 #[.slice v len cap] w (Is (.int .u64 (tot z len)) w) := by
  go_enter Try.func23, Try.ntmps23
  go_wp2
  go_loopw [3, 8] (fun t3 t8 wr => SumI z len w t3 t8 wr) (fun _ i _ => len - (intOf i).toNat)
  case atStart => exact ⟨0, by omega, rfl, rfl, rfl⟩
  case round =>
    obtain ⟨k, hk, rfl, rfl, rfl⟩ := hrel
    obtain ⟨b0, b1⟩ := tot_bd (z := z) (n := k) (fun j hj => (HZ.out j (by omega)).1)
    by_cases hlt : k < len
    · have h3 : (k : Int) < len := by omega
      obtain ⟨b, o, rfl, hb, hc⟩ := HC.out k hlt
      obtain ⟨z0, z1⟩ := HZ.out k hlt
      by_cases ht : 18446744073709551615 - tot z k < z k
      · have T := Lib.hid (tot_top hlt (fun j hj => (HZ.out j hj).1) ht)
        generalize tot z k = t at *
        generalize z k = y at *
        go_wp2
        go_ret
        exact isI_of T.out.symm
      · have T := Lib.hid (tot_next ht)
        generalize tot z k = t at *
        generalize z k = y at *
        go_wp2
        go_roundw
        case rel => exact ⟨k + 1, hlt, by rw [T.out], by go_num, rfl⟩
        case measure => simp [intOf]; omega
    · have h3 : ¬ (k : Int) < len := by omega
      obtain rfl : k = len := by omega
      generalize tot z k = t at *
      go_wp2
      go_ret
      exact ⟨rfl, rfl⟩
theorem refSums (v : Option Addr) (len cap : Nat) (z : Nat → Int) (w : World) (hlen : len ≤ 9223372036854775807) (HZ : Hid (∀ j, j < len → U64 (z j))) (HC : Hid (Lies v len z w)) :
    Calls Try.prog 24 #[.slice v len cap] w (Is (.int .u64 (tot z len)) w) := by
  go_enter Try.func24, Try.ntmps24
  go_wp2
  go_loopw [3, 4] (fun t3 t8 wr => SumI z len w t3 t8 wr) (fun _ i _ => len - (intOf i).toNat)
  case atStart => exact ⟨0, by omega, rfl, rfl, rfl⟩
  case round =>
    obtain ⟨k, hk, rfl, rfl, rfl⟩ := hrel
    obtain ⟨b0, b1⟩ := tot_bd (z := z) (n := k) (fun j hj => (HZ.out j (by omega)).1)
    by_cases hlt : k < len
    · have h3 : (k : Int) < len := by omega
      obtain ⟨b, o, rfl, hb, hc⟩ := HC.out k hlt
      obtain ⟨z0, z1⟩ := HZ.out k hlt
      by_cases ht : 18446744073709551615 - tot z k < z k
      · have T := Lib.hid (tot_top hlt (fun j hj => (HZ.out j hj).1) ht)
        generalize tot z k = t at *
        generalize z k = y at *
        have hwrap : IntKind.u64.wrap (t + y) = t + y - 18446744073709551616 := by rw [IntKind.wrap_u64]; omega
        have hl : t + y - 18446744073709551616 < t := by omega
        go_wp2
        go_ret
        exact isI_of T.out.symm
      · have T := Lib.hid (tot_next ht)
        generalize tot z k = t at *
        generalize z k = y at *
        have hwrap : IntKind.u64.wrap (t + y) = t + y := by rw [IntKind.wrap_u64]; omega
        have hl : ¬ t + y < t := by omega
        go_wp2
        go_roundw
        case rel => exact ⟨k + 1, hlt, by rw [T.out], by go_num, rfl⟩
        case measure => simp [intOf]; omega
    · have h3 : ¬ (k : Int) < len := by omega
      obtain rfl : k = len := by omega
      generalize tot z k = t at *
      go_wp2
      go_ret
      exact ⟨rfl, rfl⟩


def two (a b : Int) (j : Nat) : Int := if j = 0 then a else b
theorem tot_two {a b : Int} (ha : U64 a) (hb : U64 b) : tot (two a b) 2 = top a b := by
  unfold U64 at ha hb
  simp only [tot, two, top, if_pos, Nat.one_ne_zero, if_false]; omega
theorem two_lies (w : World) (a b : Int) (t : TypeId) : Lies (some ⟨w.heap.size, 0, none⟩) 2 (two a b) (w.alloc (.cells #[.int .u64 a, .int .u64 b] t (0, 0))) := by
  intro j hj
  refine ⟨w.heap.size, 0, rfl, by simp, ?_⟩
  have h := heap_alloc_new w (.cells #[.int .u64 a, .int .u64 b] t (0, 0))
  rcases (by omega : j = 0 ∨ j = 1) with rfl | rfl
  · rw [cell_of_row _ _ _ _ _ _ h]; rfl
  · rw [cell_of_row _ _ _ _ _ _ h]; rfl
theorem u64_two {a b : Int} (ha : U64 a) (hb : U64 b) : ∀ j, j < 2 → U64 (two a b j) := by
  intro j _
  unfold two
  split
  · exact ha
  · exact hb
theorem after (f t x : Int) (w : World) (hf : U64 f) (ht : U64 t) (hx : U64 x) :
    Calls Try.prog 14 #[.int .u64 f, .int .u64 t, .int .u64 x] w (IsG (.tuple #[.int .u64 (gap f x), .int .u64 (top t x)]) w) := by
  have G := Lib.hid (fun w' => gaps f x w' hf hx)
  have S := Lib.hid (sums (some ⟨w.heap.size, 0, none⟩) 2 2 (two t x) _ (by omega) (Lib.hid (u64_two ht hx)) (Lib.hid (two_lies w t x 23)))
  rw [tot_two ht hx] at S
  have hg := alloc1 w (.cells #[.int .u64 t, .int .u64 x] 23 (0, 0))
  generalize gap f x = r1 at *
  generalize top t x = r2 at *
  go_enter Try.func14, Try.ntmps14
  go_wp2_with (first
    | (go_at_call 19; refine (G.out _).mono ?_; rintro e w1 ⟨rfl, hw⟩; replace hw := hw.symm; subst hw)
    | (go_at_call 23; refine S.out.mono ?_; rintro e w1 ⟨rfl, hw⟩; replace hw := hw.symm; subst hw))
  go_ret2
  exact isG_of rfl hg

theorem judges (g : Int) (w : World) (hg : U64 g) : Calls Try.prog 20 #[.int .u64 g] w
    (fun e w' => e = .returned (.func (.func 26) #[] #[.pointer (some ⟨w.heap.size, 0, none⟩)]) ∧ w' = w.alloc (.cells #[.int .u64 (g / 2)] 23)) := by
  have hmf : ∀ (fn : Fn) (first cap : Array Value) (w : World), (Instr.makeFunc fn first cap).run Try.prog w = .ok (.func fn first cap) w := fun _ _ _ _ => rfl
  obtain ⟨h0, h1⟩ := hg
  have hd : g.tdiv 2 = g / 2 := Int.tdiv_eq_ediv_of_nonneg h0
  go_enter Try.func20, Try.ntmps20
  go_wp2
  go_ret
  exact ⟨rfl, rfl⟩
set_option maxHeartbeats 4000000 in
theorem betters (a b : Cd) (half : Int) (h : Nat) (w : World) (hc : w.cell? ⟨h, 0, none⟩ = some (.int .u64 half)) :
    Calls Try.prog 26 #[vCd a, vCd b, .pointer (some ⟨h, 0, none⟩)] w (IsG (.bool (better half a b)) w) := by
  obtain ⟨ai, aw, am, ar⟩ := a
  obtain ⟨bi, bw, bm, br⟩ := b
  unfold better vCd
  simp only
  have hg := (alloc1 w (.cells #[.int .i64 ai, .int .u64 aw, .int .u64 (am : Int), .bool ar] 35 (0, 0))).alloc (by simp) (.cells #[.int .i64 bi, .int .u64 bw, .int .u64 (bm : Int), .bool br] 35 (0, 0))
  have hcc := cell_fresh hc hg
  obtain ⟨c0, c1, c2, c3, cz⟩ := four (block_fresh (heap_alloc_new w (.cells #[.int .i64 ai, .int .u64 aw, .int .u64 (am : Int), .bool ar] 35 (0, 0))) (alloc1 _ (.cells #[.int .i64 bi, .int .u64 bw, .int .u64 (bm : Int), .bool br] 35 (0, 0))))
  obtain ⟨d0, d1, d2, d3, dz⟩ := four (heap_alloc_new (w.alloc (.cells #[.int .i64 ai, .int .u64 aw, .int .u64 (am : Int), .bool ar] 35 (0, 0))) (.cells #[.int .i64 bi, .int .u64 bw, .int .u64 (bm : Int), .bool br] 35 (0, 0)))
  by_cases h1 : aw = bw
  · subst h1
    go_enter Try.func26, Try.ntmps26
    go_wp2
    go_ret
    exact isG_of (by simp) hg
  · by_cases h2 : max aw bw ≤ half
    all_goals
      have h1' : (aw == bw) = false := by simp [h1]
      go_enter Try.func26, Try.ntmps26
      go_wp2
      all_goals first | (exfalso; omega) | (go_ret; exact isG_of (by simp [h1, h2]) hg)
end Go.Proofs.Ytjbhighfajdfhaa.Pull
