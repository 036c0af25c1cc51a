/- What load.those tells, whatever ranges over it: each P that may be, rising, and its load. Conditions: each argument is a number of its kind. -/
import Derived.RangeFuncNested
import Derived.RangeFuncBox
import Derived.RangeFuncBound
import Derived.RangeFuncCalls
import Derived.RangeFuncLeaves
import Derived.Shelf.Abstract
import Derived.Shelf.RegionOpen
import Derived.OwnWalkIn
import Derived.TacticsInMore
import Derived.LoopNIn
import Derived.LoopIn
import Derived.Test.YtlbaiblhoojehaaLoadLies
namespace Go.Proofs.Ytlbaiblhoojehaa.Load
open Go.RowKit Go.Shelf
attribute [local go_sem] Oper.semAt_some
set_option linter.unusedVariables false
set_option linter.unusedSimpArgs false

theorem grownBy_of {w w' : World} (h : Below w.heap.size w w') : w.grownBy w' none := ⟨h.os, h.tape, h.output, h.size, fun k hk _ => h.block k hk⟩

theorem those (n : Nat) (v : Option Addr) (len cap m : Nat) (w : World) : CallsIn Fence.wide n Try.prog 22 #[.slice v len cap, .int .u64 m] w
    (fun e w' => e = .returned (.func (.func 25) #[] #[.pointer (some ⟨w.heap.size, 0, none⟩), .pointer (some ⟨w.heap.size + 1, 0, none⟩)]) ∧ w' = (w.alloc (.cells #[.slice v len cap] 22)).alloc (.cells #[.int .u64 m] 24)) := by
  have hmf : ∀ (fn : Fn) (first cap : Array Value) (w : World), (Instr.makeFunc fn first cap).run Try.prog w = .ok (.func fn first cap) w := fun _ _ _ _ => rfl
  refine callsIn_of_wp Try.func22 rfl trivial ?_ rfl
  simp only [Try.ntmps22, List.size_toArray, List.length_cons, List.length_nil, Nat.reduceAdd, Nat.reduceSub, Array.replicate_succ, Array.replicate_zero, List.push_toArray, List.append_toArray, List.nil_append, List.cons_append]
  gi_wp2
  go_ret
  exact ⟨rfl, rfl⟩

/-- What is told of one, and what a round that goes on keeps. -/
abbrev encs (z : Nat → Int) {n : Nat} (x : Fin n) : Array Value := #[.int .i64 (x.1 : Int), .int .u64 (z x.1)]
def Keep (n₀ Bm : Nat) (W W' : World) : Prop := Below n₀ W W' ∧ W'.heap[Bm]? = W.heap[Bm]?
theorem keep_t {n₀ Bm : Nat} {A B C : World} (h : Keep n₀ Bm A B) (k : Keep n₀ Bm B C) : Keep n₀ Bm A C := ⟨h.1.trans k.1, k.2.trans h.2⟩
theorem keep_b {n₀ Bm : Nat} {w : World} (hn : n₀ ≤ w.heap.size) (hB : Bm < w.heap.size) (W : World) (l : Nat) (o o' : Obj) (hl : w.heap.size ≤ l) (h : W.heap[l]? = some o) (h1 : o.isCells = false) (h2 : o.isWalk = false) : Keep n₀ Bm W (W.putObj l o') :=
  ⟨belowK_b hn W l o o' hl h h1 h2, World.putObj_heap_other (by omega)⟩

set_option maxRecDepth 100000 in
set_option maxHeartbeats 1000000 in
theorem those_stops (n : Nat) (hn : 1 ≤ n) (w : World) (n₀ Bs Bm : Nat) (v : Option Addr) (len cap m N : Nat) (z : Nat → Int) (hm : m < 18446744073709551616) (hN : N = min len 64) (hcap : len ≤ cap) (hnil : v = none → len = 0)
    (b1 : Boxed w Bs 22 (.slice v len cap)) (b2 : Boxed w Bm 24 (.int .u64 m)) (hn₀ : n₀ ≤ w.heap.size) (hz : Hid (∀ j, j < N → U64 (z j)))
    (hL : Hid (∀ j, j < N → ∃ b off, v = some ⟨b, off, none⟩ ∧ b < n₀ ∧ w.cell? ⟨b, off + j, none⟩ = some (.int .u64 (z j)))) :
    SeqStopsK Fence.wide n Try.prog 25 #[.pointer (some ⟨Bs, 0, none⟩), .pointer (some ⟨Bm, 0, none⟩)] (encs z (n := N)) (Keep n₀ Bm) (fun xs => xs = items m N N) (fun pre => ∃ k, k ≤ N ∧ pre = items m N k) N w := fun l J Jx W hW hJ _ hY h0 => by
  have c1 := (b1.kept (grownBy_of hW) (by simp)).cell
  have b2' := b2.kept (grownBy_of hW) (by simp)
  have c2 := b2'.cell
  have HL : Hid (∀ j, j < N → ∃ b off, v = some ⟨b, off, none⟩ ∧ b < n₀ ∧ W.cell? ⟨b, off + j, none⟩ = some (.int .u64 (z j))) := Lib.hid fun j hj => by
    obtain ⟨b, o, e, hb, hc⟩ := hL.out j hj
    exact ⟨b, o, e, hb, (hW.cell (p := ⟨b, o + j, none⟩) (by show b < _; omega)).trans hc⟩
  have e1 : min (len : Int) 64 = (N : Int) := by omega
  have e2 : (N : Int) ≤ cap := by omega
  by_cases h64 : (64 : Int) < len
  · obtain rfl : N = 64 := by omega
    clear hN
    refine callsIn_of_wp Try.func25 rfl trivial ?_ rfl
    simp only [Try.ntmps25, List.size_toArray, List.length_cons, List.length_nil, Nat.reduceAdd, Nat.reduceSub, Array.replicate_succ, Array.replicate_zero, List.push_toArray, List.append_toArray, List.nil_append, List.cons_append]
    gi_wp2
    gi_loopw [12] (fun t wr => ∃ k : Nat, k ≤ 64 ∧ t = .int .i64 k ∧ J (items m 64 k) wr ∧ Keep n₀ Bm W wr) (fun i _ => 64 - (intOf i).toNat)
    case atStart => exact ⟨0, by omega, rfl, h0, Below.refl _ _, rfl⟩
    case round =>
      obtain ⟨k, hk, rfl, hJs, hK⟩ := hrel
      have d2 := (show Boxed wr Bm 24 (.int .u64 m) from hK.2.trans b2').cell
      by_cases hlt : k < 64
      · have h3 : (k : Int) < 64 := by omega
        obtain ⟨b, o, rfl, hb, hc⟩ := HL.out k hlt
        have hcw := (hK.1.cell (p := ⟨b, o + k, none⟩) hb).trans hc
        have HB := bit_may m k hm (by omega)
        cases hmay : may m k
        · rw [hmay] at HB
          have HJ := Lib.hid hJs
          have HI := Lib.hid (items_no (n := 64) hmay)
          clear hJs
          generalize z k = y at *
          gi_wp2
          refine ⟨fun _ h => (by cases h), ?_⟩
          gi_wp2
          go_roundw
          case rel => exact ⟨k + 1, by omega, by go_num, by rw [HI.out]; exact HJ.out, hK⟩
          case measure => simp [intOf]; omega
        · rw [hmay] at HB
          obtain ⟨fn, tmps, assign, body, hy, hR⟩ := hY _ ⟨k, hlt⟩ wr hJs (by have := items_len m 64 k; omega)
          dsimp only [encs] at hy
          have HI := Lib.hid (items_yes hlt hmay)
          gi_wp2
          refine hR.mono ?_
          rintro e W3 (⟨rfl, hJ3, hk3⟩ | ⟨rfl, hJx3⟩)
          · gi_wp2
            go_roundw
            case rel => exact ⟨k + 1, by omega, by go_num, by rw [HI.out]; exact hJ3, keep_t hK hk3⟩
            case measure => simp [intOf]; omega
          · gi_wp2
            refine bodyPost_ret (results_none rfl _ _ _) rfl ?_
            exact ⟨⟨_, rfl⟩, .inr ⟨_, ⟨k + 1, by omega, HI.out.symm⟩, hJx3⟩⟩
      · have h3 : ¬ (k : Int) < 64 := by omega
        obtain rfl : k = 64 := by omega
        gi_wp2
        go_end0
        exact ⟨⟨_, rfl⟩, .inl hJs⟩
  · obtain rfl : N = len := by omega
    clear hN
    refine callsIn_of_wp Try.func25 rfl trivial ?_ rfl
    simp only [Try.ntmps25, List.size_toArray, List.length_cons, List.length_nil, Nat.reduceAdd, Nat.reduceSub, Array.replicate_succ, Array.replicate_zero, List.push_toArray, List.append_toArray, List.nil_append, List.cons_append]
    gi_wp2
    gi_loopw [12] (fun t wr => ∃ k : Nat, k ≤ N ∧ t = .int .i64 k ∧ J (items m N k) wr ∧ Keep n₀ Bm W wr) (fun i _ => N - (intOf i).toNat)
    case atStart => exact ⟨0, by omega, rfl, h0, Below.refl _ _, rfl⟩
    case round =>
      obtain ⟨k, hk, rfl, hJs, hK⟩ := hrel
      have d2 := (show Boxed wr Bm 24 (.int .u64 m) from hK.2.trans b2').cell
      by_cases hlt : k < N
      · have h3 : (k : Int) < N := by omega
        obtain ⟨b, o, rfl, hb, hc⟩ := HL.out k hlt
        have hcw := (hK.1.cell (p := ⟨b, o + k, none⟩) hb).trans hc
        have HB := bit_may m k hm (by omega)
        cases hmay : may m k
        · rw [hmay] at HB
          have HJ := Lib.hid hJs
          have HI := Lib.hid (items_no (n := N) hmay)
          clear hJs
          generalize z k = y at *
          gi_wp2
          refine ⟨fun _ h => (by cases h), ?_⟩
          gi_wp2
          go_roundw
          case rel => exact ⟨k + 1, by omega, by go_num, by rw [HI.out]; exact HJ.out, hK⟩
          case measure => simp [intOf]; omega
        · rw [hmay] at HB
          obtain ⟨fn, tmps, assign, body, hy, hR⟩ := hY _ ⟨k, hlt⟩ wr hJs (by have := items_len m N k; omega)
          dsimp only [encs] at hy
          have HI := Lib.hid (items_yes hlt hmay)
          gi_wp2
          refine hR.mono ?_
          rintro e W3 (⟨rfl, hJ3, hk3⟩ | ⟨rfl, hJx3⟩)
          · gi_wp2
            go_roundw
            case rel => exact ⟨k + 1, by omega, by go_num, by rw [HI.out]; exact hJ3, keep_t hK hk3⟩
            case measure => simp [intOf]; omega
          · gi_wp2
            refine bodyPost_ret (results_none rfl _ _ _) rfl ?_
            exact ⟨⟨_, rfl⟩, .inr ⟨_, ⟨k + 1, by omega, HI.out.symm⟩, hJx3⟩⟩
      · have h3 : ¬ (k : Int) < N := by omega
        obtain rfl : k = N := by omega
        gi_wp2
        go_end0
        exact ⟨⟨_, rfl⟩, .inl hJs⟩
end Go.Proofs.Ytlbaiblhoojehaa.Load
