/- Slices of bools in memory; what package place's closures, and the document's small functions, return. Conditions: each argument is a number of its kind. -/
import Derived.Test.YtlbaiblhoojehaaPlacePlain
import Derived.Test.YtlbaiblhoojehaaLoadLea
import Derived.Test.YtlbaiblhoojehaaLoadRefL
import Derived.Laws.EntriesVeiled
namespace Go.Proofs.Ytlbaiblhoojehaa.Place
open Go.ChangeShapes Go.WideShapes Go.ChangeAt Go.RowKit Load
set_option linter.unusedVariables false
set_option linter.unusedSimpArgs false
attribute [local irreducible] Go.wpQuiet

theorem cell_fresh {w w' : World} {a : Addr} {v : Value} (h : w.cell? a = some v) (hg : Below w.heap.size w w') : w'.cell? a = some v := (hg.cell (World.block_lt_of_cell? w a h)).trans h
theorem cell_new (w : World) (v : Value) (t : TypeId) : (w.alloc (.cells #[v] t (0, 0))).cell? ⟨w.heap.size, 0, none⟩ = some v := by
  rw [cell_of_row _ _ _ _ _ _ (heap_alloc_new w (.cells #[v] t (0, 0)))]; rfl
theorem one_cell {w : World} {b : Nat} {v : Value} {t : TypeId} (h : w.heap[b]? = some (.cells #[v] t (0, 0))) : w.cell? ⟨b, 0, none⟩ = some v := by
  rw [cell_of_row _ _ _ _ _ _ h]; rfl
theorem five (w : World) (o0 o1 o2 o3 o4 : Obj) : (((((w.alloc o0).alloc o1).alloc o2).alloc o3).alloc o4).heap[w.heap.size]? = some o0 ∧ (((((w.alloc o0).alloc o1).alloc o2).alloc o3).alloc o4).heap[w.heap.size + 1]? = some o1 ∧
    (((((w.alloc o0).alloc o1).alloc o2).alloc o3).alloc o4).heap[w.heap.size + 1 + 1]? = some o2 ∧ (((((w.alloc o0).alloc o1).alloc o2).alloc o3).alloc o4).heap[w.heap.size + 1 + 1 + 1]? = some o3 ∧
    (((((w.alloc o0).alloc o1).alloc o2).alloc o3).alloc o4).heap[w.heap.size + 1 + 1 + 1 + 1]? = some o4 ∧ Below w.heap.size w (((((w.alloc o0).alloc o1).alloc o2).alloc o3).alloc o4) := by
  refine ⟨?_, ?_, ?_, ?_, ?_, (((((Below.refl _ w).alloc (Nat.le_refl _) o0).alloc (by simp) o1).alloc (by simp; omega) o2).alloc (by simp; omega) o3).alloc (by simp; omega) o4⟩
  · rw [Below.heap_alloc _ _ _ (by simp <;> omega), Below.heap_alloc _ _ _ (by simp <;> omega), Below.heap_alloc _ _ _ (by simp <;> omega), Below.heap_alloc _ _ _ (by simp <;> omega)]; exact heap_alloc_new w o0
  · rw [Below.heap_alloc _ _ _ (by simp <;> omega), Below.heap_alloc _ _ _ (by simp <;> omega), Below.heap_alloc _ _ _ (by simp <;> omega)]
    simpa using heap_alloc_new (w.alloc o0) o1
  · rw [Below.heap_alloc _ _ _ (by simp <;> omega), Below.heap_alloc _ _ _ (by simp <;> omega)]
    simpa using heap_alloc_new ((w.alloc o0).alloc o1) o2
  · rw [Below.heap_alloc _ _ _ (by simp <;> omega)]
    simpa using heap_alloc_new (((w.alloc o0).alloc o1).alloc o2) o3
  · simpa using heap_alloc_new ((((w.alloc o0).alloc o1).alloc o2).alloc o3) o4
/-- A slice of bools, R 0 to R (r - 1). -/
def Bs (v : Option Addr) (r : Nat) (R : Nat → Bool) (w : World) : Prop := ∀ j, j < r → ∃ b off, v = some ⟨b, off, none⟩ ∧ b < w.heap.size ∧ w.cell? ⟨b, off + j, none⟩ = some (.bool (R j))
theorem Bs.fresh {v : Option Addr} {r : Nat} {R : Nat → Bool} {w w' : World} (h : Bs v r R w) (hg : Below w.heap.size w w') : Bs v r R w' := by
  intro j hj
  obtain ⟨b, o, e, hb, hc⟩ := h j hj
  exact ⟨b, o, e, by have := hg.size; omega, cell_fresh hc hg⟩

/-- A value told; the world is as it was, or has grown. -/
def Is (v : Value) (w : World) (e : Ending) (w' : World) : Prop := e = .returned v ∧ w' = w
def IsG (v : Value) (w : World) (e : Ending) (w' : World) : Prop := e = .returned v ∧ Below w.heap.size w w'
theorem is_of {u v : Value} {w : World} (h : u = v) : Is v w (.returned u) w := by subst h; exact ⟨rfl, rfl⟩
theorem isG_of {u v : Value} {w w' : World} (h : u = v) (g : Below w.heap.size w w') : IsG v w (.returned u) w' := by subst h; exact ⟨rfl, g⟩

theorem alloweds (v : Option Addr) (n cap m : Nat) (w : World) (hn : n ≤ 9223372036854775807) : Calls Try.prog 20 #[.slice v n cap, .int .u64 m] w
    (fun e w' => e = .returned (.func (.func 24) #[] #[.pointer (some ⟨w.heap.size + 1, 0, none⟩), .pointer (some ⟨w.heap.size, 0, none⟩)]) ∧ w' = (w.alloc (.cells #[.int .u64 m] 24)).alloc (.cells #[.int .i64 ((min n 64 : Nat) : Int)] 3)) := by
  have hmf : ∀ (fn : Fn) (first cap : Array Value) (w : World), (Instr.makeFunc fn first cap).run Try.prog w = .ok (.func fn first cap) w := fun _ _ _ _ => rfl
  by_cases h : n ≤ 64
  · have e1 : min n 64 = n := by omega
    rw [e1]
    go_enter Try.func20, Try.ntmps20
    go_wp2
    go_ret
    exact ⟨rfl, rfl⟩
  · have e1 : min n 64 = 64 := by omega
    rw [e1]
    go_enter Try.func20, Try.ntmps20
    go_wp2
    go_ret
    exact ⟨rfl, rfl⟩

theorem mays (n m : Nat) (p : Int) (x y : Nat) (w : World) (hm : m < 18446744073709551616) (c1 : w.cell? ⟨x, 0, none⟩ = some (.int .i64 ((min n 64 : Nat) : Int))) (c2 : w.cell? ⟨y, 0, none⟩ = some (.int .u64 m)) :
    Calls Try.prog 24 #[.int .i64 p, .pointer (some ⟨x, 0, none⟩), .pointer (some ⟨y, 0, none⟩)] w (Is (.bool (over (can n m) p)) w) := by
  by_cases h0 : 0 ≤ p
  · obtain ⟨k, rfl⟩ : ∃ k : Nat, p = k := ⟨p.toNat, by omega⟩
    rw [over_nat]
    by_cases h2 : k < n ∧ k < 64
    · have h2' : (k : Int) < (min n 64 : Nat) := by omega
      have HB := bit_may m k hm h2.2
      rw [can_in h2.1]
      generalize may m k = b at *
      generalize min n 64 = N at *
      go_enter Try.func24, Try.ntmps24
      go_wp2
      go_ret
      exact ⟨rfl, rfl⟩
    · have h2' : ¬ (k : Int) < (min n 64 : Nat) := by omega
      have e : can n m k = false := by
        by_cases h3 : k < n
        · exact can_far (by omega)
        · exact can_out (by omega)
      rw [e]
      generalize min n 64 = N at *
      clear h2
      go_enter Try.func24, Try.ntmps24
      go_wp2
      go_ret
      exact ⟨rfl, rfl⟩
  · rw [over_neg (by omega)]
    generalize min n 64 = N at *
    go_enter Try.func24, Try.ntmps24
    go_wp2
    go_ret
    exact ⟨rfl, rfl⟩

/-- What resting's closure took along. -/
structure Took (v : Option Addr) (n cap : Nat) (u : Option Addr) (r rc m x y q e k : Nat) (w : World) : Prop where
  may : w.cell? ⟨x, 0, none⟩ = some (.func (.func 24) #[] #[.pointer (some ⟨e, 0, none⟩), .pointer (some ⟨k, 0, none⟩)])
  loads : w.cell? ⟨y, 0, none⟩ = some (.slice v n cap)
  runs : w.cell? ⟨q, 0, none⟩ = some (.slice u r rc)
  till : w.cell? ⟨e, 0, none⟩ = some (.int .i64 ((min n 64 : Nat) : Int))
  mask : w.cell? ⟨k, 0, none⟩ = some (.int .u64 m)
theorem Took.fresh {v : Option Addr} {n cap : Nat} {u : Option Addr} {r rc m x y q e k : Nat} {w w' : World} (h : Took v n cap u r rc m x y q e k w) (hg : Below w.heap.size w w') : Took v n cap u r rc m x y q e k w' :=
  ⟨cell_fresh h.may hg, cell_fresh h.loads hg, cell_fresh h.runs hg, cell_fresh h.till hg, cell_fresh h.mask hg⟩
def Rested (v : Option Addr) (n cap : Nat) (u : Option Addr) (r rc m : Nat) (w : World) (e : Ending) (w' : World) : Prop :=
  ∃ x y q a k, e = .returned (.func (.func 23) #[] #[.pointer (some ⟨x, 0, none⟩), .pointer (some ⟨y, 0, none⟩), .pointer (some ⟨q, 0, none⟩)]) ∧ Took v n cap u r rc m x y q a k w' ∧ Below w.heap.size w w'

theorem restings (v : Option Addr) (n cap : Nat) (u : Option Addr) (r rc m : Nat) (w : World) (hn : n ≤ 9223372036854775807) : Calls Try.prog 18 #[.slice v n cap, .slice u r rc, .int .u64 m] w (Rested v n cap u r rc m w) := by
  have hmf : ∀ (fn : Fn) (first cap : Array Value) (w : World), (Instr.makeFunc fn first cap).run Try.prog w = .ok (.func fn first cap) w := fun _ _ _ _ => rfl
  have AL := Lib.hid (fun w => alloweds v n cap m w hn)
  obtain ⟨N, hN⟩ : ∃ N : Int, ((min n 64 : Nat) : Int) = N := ⟨_, rfl⟩
  rw [hN] at AL
  go_enter Try.func18, Try.ntmps18
  go_wp2_with (go_at_call 20; refine (AL.out _).mono ?_; rintro e w1 ⟨rfl, rfl⟩)
  go_ret
  obtain ⟨h0, h1, h2, h3, h4, hg⟩ := five w (.cells #[.slice v n cap] 22) (.cells #[.slice u r rc] 23) (.cells #[.int .u64 m] 24) (.cells #[.int .i64 N] 3) (.cells #[.func (.func 24) #[] #[.pointer (some ⟨w.heap.size + 1 + 1 + 1, 0, none⟩), .pointer (some ⟨w.heap.size + 1 + 1, 0, none⟩)]] 38)
  exact ⟨_, _, _, _, _, rfl, ⟨one_cell h4, one_cell h0, one_cell h1, (one_cell h3).trans (by rw [hN]), one_cell h2⟩, hg⟩

set_option maxHeartbeats 1000000 in
theorem rests (v : Option Addr) (n cap : Nat) (u : Option Addr) (r rc m x y q a k : Nat) (z : Nat → Int) (R : Nat → Bool) (p : Int) (w : World) (hm : m < 18446744073709551616) (hn : n ≤ 9223372036854775807) (hr : r ≤ 9223372036854775807) (T : Took v n cap u r rc m x y q a k w) (hL : Hid (Lies v n z w)) (hB : Hid (Bs u r R w)) :
    Calls Try.prog 23 #[.int .i64 p, .pointer (some ⟨x, 0, none⟩), .pointer (some ⟨y, 0, none⟩), .pointer (some ⟨q, 0, none⟩)] w (Is (.bool (over (rest z n r R m) p)) w) := by
  obtain ⟨t1, t2, t3, t4, t5⟩ := T
  have MY := Lib.hid (mays n m p a k w hm t4 t5)
  clear t4 t5
  cases hc : over (can n m) p
  · rw [hc] at MY
    have e : over (rest z n r R m) p = false := by
      cases h : over (rest z n r R m) p
      · rfl
      · obtain ⟨j, rfl, hj⟩ := over_yes h
        rw [over_nat, (rest_can hj).1] at hc
        cases hc
    rw [e]
    go_enter Try.func23, Try.ntmps23
    go_wp2_with (go_at_call 24; refine MY.out.mono ?_; rintro e w1 ⟨rfl, hw⟩; replace hw := hw.symm; subst hw)
    go_ret
    exact ⟨rfl, rfl⟩
  · rw [hc] at MY
    obtain ⟨j, rfl, hj⟩ := over_yes hc
    rw [over_nat]
    obtain ⟨hjn, -, -⟩ := can_lt hj
    have hjn' : (j : Int) < n := by omega
    have E : Hid (rest z n r R m j = ((z j == 0) && !busy r R j)) := Lib.hid (by unfold rest; rw [hj]; rfl)
    obtain ⟨b, o, rfl, hb, hcell⟩ := hL.out j hjn
    by_cases h0 : z j = 0
    · rw [h0] at hcell
      by_cases hjr : j < r
      · have hjr' : (j : Int) < r := by omega
        obtain ⟨b2, o2, rfl, hb2, hcell2⟩ := hB.out j hjr
        have E2 := Lib.hid (E.out.trans (show ((z j == 0) && !busy r R j) = !R j by unfold busy; simp [h0, hjr]))
        rw [E2.out]
        generalize R j = c at *
        clear hj E E2 hc h0
        cases c
        all_goals
          go_enter Try.func23, Try.ntmps23
          go_wp2_with (go_at_call 24; refine MY.out.mono ?_; rintro e w1 ⟨rfl, hw⟩; replace hw := hw.symm; subst hw)
          go_ret
          exact ⟨rfl, rfl⟩
      · have hjr' : ¬ (j : Int) < r := by omega
        rw [E.out.trans (show ((z j == 0) && !busy r R j) = true by unfold busy; simp [h0, hjr])]
        clear hj E hc h0
        go_enter Try.func23, Try.ntmps23
        go_wp2_with (go_at_call 24; refine MY.out.mono ?_; rintro e w1 ⟨rfl, hw⟩; replace hw := hw.symm; subst hw)
        go_ret
        exact ⟨rfl, rfl⟩
    · have h0' : (z j == 0) = false := by simpa using h0
      rw [E.out.trans (show ((z j == 0) && !busy r R j) = false by simp [h0'])]
      generalize z j = zj at *
      clear hj E hc
      go_enter Try.func23, Try.ntmps23
      go_wp2_with (go_at_call 24; refine MY.out.mono ?_; rintro e w1 ⟨rfl, hw⟩; replace hw := hw.symm; subst hw)
      go_ret
      exact ⟨rfl, rfl⟩

theorem lowests (S : Nat → Bool) (c0 c1 c2 : Value) (w : World) (H : Hid (∀ p : Nat, p < 64 → ∀ W, Below w.heap.size w W → Calls Try.prog 23 #[.int .i64 p, c0, c1, c2] W (Is (.bool (S p)) W))) :
    Calls Try.prog 19 #[.func (.func 23) #[] #[c0, c1, c2]] w (Is (.int .i64 (low S 64)) w) := by
  go_enter Try.func19, Try.ntmps19
  go_wp2
  go_loopw [4] (fun t wr => ∃ k : Nat, k ≤ 64 ∧ t = .int .i64 k ∧ (∀ j, j < k → S j = false) ∧ wr = w) (fun i _ => 64 - (intOf i).toNat)
  case atStart => exact ⟨0, by omega, rfl, fun j hj => by omega, rfl⟩
  case round =>
    obtain ⟨k, hk, rfl, hS, rfl⟩ := hrel
    by_cases hlt : k < 64
    · have h3 : (k : Int) < 64 := by omega
      have C := Lib.hid (H.out k hlt wr (Below.refl _ _))
      replace hS := Lib.hid hS
      cases hc : S k
      · rw [hc] at C
        go_wp2_with (go_at_call 23; refine C.out.mono ?_; rintro e w1 ⟨rfl, hw⟩; replace hw := hw.symm; subst hw)
        go_roundw
        case rel => exact ⟨k + 1, by omega, by go_num, fun j hj => by rcases (by omega : j < k ∨ j = k) with h | rfl; exact hS.out j h; exact hc, by first | rfl | trivial⟩
        case measure => simp [intOf]; omega
      · rw [hc] at C
        have E := Lib.hid (low_first (n := 64) hlt hc hS.out)
        go_wp2_with (go_at_call 23; refine C.out.mono ?_; rintro e w1 ⟨rfl, hw⟩; replace hw := hw.symm; subst hw)
        go_ret
        exact is_of (by rw [E.out]; rfl)
    · have h3 : ¬ (k : Int) < 64 := by omega
      obtain rfl : k = 64 := by omega
      have E := Lib.hid (low_none hS)
      clear hS
      go_wp2
      go_ret
      exact is_of (by rw [E.out]; rfl)

def Cell (v : Option Addr) (n cap : Nat) (u : Option Addr) (r : Nat) (z : Nat → Int) (R : Nat → Bool) (w : World) : Prop := In v n cap z w ∧ Bs u r R w
theorem Cell.fresh {v : Option Addr} {n cap : Nat} {u : Option Addr} {r : Nat} {z : Nat → Int} {R : Nat → Bool} {w w' : World} (h : Cell v n cap u r z R w) (hg : Below w.heap.size w w') : Cell v n cap u r z R w' := ⟨h.1.fresh hg, h.2.fresh hg⟩

theorem idles (v : Option Addr) (n cap : Nat) (u : Option Addr) (r rc m : Nat) (z : Nat → Int) (R : Nat → Bool) (w : World) (hm : m < 18446744073709551616) (hn : n ≤ 9223372036854775807) (hr : r ≤ 9223372036854775807) (h : Cell v n cap u r z R w) :
    Calls Try.prog 13 #[.slice v n cap, .slice u r rc, .int .u64 m] w (IsG (.int .i64 (low (rest z n r R m) n)) w) := by
  have RS := Lib.hid (restings v n cap u r rc m w hn)
  rw [← low_rest]
  go_enter Try.func13, Try.ntmps13
  go_wp2_with (first
    | (go_at_call 18; refine RS.out.mono ?_; rintro e w1 ⟨x, y, q, a, k, rfl, HT, hg⟩
       have LW := Lib.hid (lowests (rest z n r R m) (.pointer (some ⟨x, 0, none⟩)) (.pointer (some ⟨y, 0, none⟩)) (.pointer (some ⟨q, 0, none⟩)) w1 (Lib.hid fun p _ W hW => by
         have := rests v n cap u r rc m x y q a k z R p W hm hn hr (HT.fresh hW) (Lib.hid (h.1.lies.fresh (fresh_trans hg hW))) (Lib.hid (h.2.fresh (fresh_trans hg hW)))
         rwa [over_nat] at this))
       clear HT)
    | (go_at_call 19; refine LW.out.mono ?_; rintro e w1 ⟨rfl, hw⟩; replace hw := hw.symm; subst hw))
  go_ret
  exact ⟨rfl, hg⟩
end Go.Proofs.Ytlbaiblhoojehaa.Place
