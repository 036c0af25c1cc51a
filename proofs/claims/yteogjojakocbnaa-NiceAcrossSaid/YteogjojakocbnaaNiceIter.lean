/- What nice.weights tells, whatever ranges over it: each nice number, rising, and its weight. Conditions: none. -/
import Derived.RangeFuncNested
import Derived.RangeFuncBox
import Derived.RangeFuncBound
import Derived.RangeFuncCalls
import Derived.RangeFuncLeaves
import Derived.Shelf.Abstract
import Derived.Shelf.RegionOpen
import Derived.WalkKit
import Derived.OwnWalkIn
import Derived.TacticsInMore
import Derived.LoopNIn
import Derived.LoopIn
import Derived.Maps.AppendAt
import Derived.Test.YteogjojakocbnaaNiceCalls
namespace Go.Proofs.Yteogjojakocbnaa.Nice
open Go.RowKit Go.Shelf
attribute [local go_sem] Oper.semAt_some
set_option linter.unusedVariables false

abbrev encs (p : Int × Int) : Array Value := #[.int .i64 p.1, .int .u64 p.2]
def pairs (k : Nat) : List (Int × Int) := (List.range k).map fun (i : Nat) => ((i : Int) - 20, wgt ((i : Int) - 20))
theorem pairs_succ (k : Nat) : pairs (k + 1) = pairs k ++ [((k : Int) - 20, wgt ((k : Int) - 20))] := by simp [pairs, List.range_succ]
theorem pairs_length (k : Nat) : (pairs k).length = k := by simp [pairs]
theorem grownBy_of {w w' : World} (h : Below w.heap.size w w') : w.grownBy w' none := ⟨h.os, h.tape, h.output, h.size, fun k hk _ => h.block k hk⟩

set_option maxRecDepth 100000 in
set_option maxHeartbeats 1000000 in
theorem weights_stops (n : Nat) (hn : 1 ≤ n) (w : World) :
    SeqStopsK Fence.wide n Try.prog 19 #[] encs (fun _ _ => True) (fun xs => xs = pairs 40) (fun pre => ∃ k, k ≤ 40 ∧ pre = pairs k) 40 w := fun l J Jx W _ hJ _ hY h0 => by
  refine callsIn_of_wp Try.func19 rfl trivial ?_ rfl
  simp only [Try.ntmps19, List.size_toArray, List.length_cons, List.length_nil, Nat.reduceAdd, Nat.reduceSub, Array.replicate_succ, Array.replicate_zero, List.push_toArray, List.append_toArray, List.nil_append, List.cons_append]
  gi_wp2
  gi_loopw [2] (fun t2 wr => ∃ k : Nat, k ≤ 40 ∧ t2 = .int .i64 ((k : Int) - 20) ∧ J (pairs k) wr) (fun i _ => (20 - intOf i).toNat)
  case atStart => exact ⟨0, by omega, rfl, h0⟩
  case round =>
    obtain ⟨k, hk, rfl, hJs⟩ := hrel
    by_cases hlt : k = 40
    · subst hlt
      gi_wp2
      go_end0
      exact ⟨⟨_, rfl⟩, .inl ⟨_, rfl, hJs⟩⟩
    · have hle : (k : Int) - 20 ≤ 19 := by omega
      have C := Lib.hid (fun w => weigh ((k : Int) - 20) w (by omega) hle)
      have hs := Lib.hid (pairs_succ k)
      have hl := Lib.hid (pairs_length k)
      gi_wp2_with (refine ⟨trivial, ?_⟩; gi_at_call 18; refine (callsIn_wide.2 (C.out _)).mono ?_; rintro e w2 ⟨rfl, hg⟩; have hJ2 := hJ _ _ w2 none hJs (grownBy_of hg) (fun r e => by cases e); obtain ⟨fn, tmps, assign, body, hy, hR⟩ := hY _ ((k : Int) - 20, wgt ((k : Int) - 20)) w2 hJ2 (by rw [hl.out]; omega); dsimp only [encs] at hy)
      refine hR.mono ?_
      rintro e W3 (⟨rfl, hJ3, _⟩ | ⟨rfl, hJx3⟩)
      · gi_wp2
        go_roundw
        case rel => exact ⟨k + 1, by omega, by go_num, by rw [hs.out]; exact hJ3⟩
        case measure => simp [intOf]; omega
      · gi_wp2
        refine bodyPost_ret (results_none rfl _ _ _) rfl ?_
        exact ⟨⟨_, rfl⟩, .inr ⟨_, ⟨k + 1, by omega, hs.out.symm⟩, hJx3⟩⟩
end Go.Proofs.Yteogjojakocbnaa.Nice
