/- What the laws' shown returns; the walk of LedgerNobody. Conditions: each number is one of its kind. -/
import Derived.Test.YtnocgdhepmgncaaLedgerCalls
namespace Go.Proofs.Ytnocgdhepmgncaa.Ledger
open Go.ChangeShapes Go.WideShapes Go.ChangeAt Go.RowKit Go.Sort Mem
set_option linter.unusedVariables false
set_option linter.unusedSimpArgs false
set_option maxRecDepth 100000

def Yes (w : World) (e : Ending) (w' : World) : Prop := e = .returned (.bool true) ∧ Below w.heap.size w w'
theorem yes_of {b : Bool} {w w' : World} (h : b = true) (g : Below w.heap.size w w') : Yes w (.returned (.bool b)) w' := by subst h; exact ⟨rfl, g⟩
theorem But.lower {lo hi : Nat} {w0 w w' : World} (hg : Below w0.heap.size w0 w) (hb : But lo hi w w') (hlo : w0.heap.size ≤ lo) : Below w0.heap.size w0 w' := hg.trans (hb.below hlo hg.size)
/-- A row that was just built is a path. -/
theorem path_new {B : Nat → Prop} {w : World} {g n : Nat} {xs : List Int} {e : TypeId} (hb : w.heap[g]? = some (.cells (cL xs).toArray e (0, 0))) (hl : xs.length = n) (hn : n * 8 ≤ 140737488355328) (hx : ∀ x ∈ xs, I64 x) (hB : B g) (c : Nat) : Path B w (some ⟨g, 0, none⟩) n c xs := by
  refine ⟨hl, hn, (fun e => by cases e), fun j x hj => ⟨hx x (List.mem_of_getElem? hj), g, 0, rfl, hB, lt_of hb, ?_⟩⟩
  rw [cell_of_row w g _ _ _ _ hb]
  simp [hj]
def exS : Bk := cre Bk.new [1, 2] 3 5
theorem exS_is : exS.t 3 = 5 ∧ exS.g 1 = 5 ∧ exS.g 2 = 5 ∧ exS.g 3 = 0 ∧ exS.tot = 5 := by decide
set_option maxHeartbeats 400000 in
theorem shown (w : World) : Calls Try.prog 9 #[] w (Yes w) := by
  have N := Lib.hid (fun w => new w)
  have CR : Hid (∀ w1 b, Book w1 w.heap.size w1.heap.size b 0 Bk.new → Calls Try.prog 15 #[.pointer (some ⟨b, 0, none⟩), .slice (some ⟨w1.heap.size, 0, none⟩) 2 2, .int .i64 3, .int .i64 5] (w1.alloc (.cells #[.int .i64 1, .int .i64 2] 3 (0, 0)))
      (Did w.heap.size w1.heap.size b 3 exS (.int .i64 0) (w1.alloc (.cells #[.int .i64 1, .int .i64 2] 3 (0, 0))))) := Lib.hid fun w1 b h => by
    have hn := heap_alloc_new w1 (.cells #[.int .i64 1, .int .i64 2] 3 (0, 0))
    have hp : Path (fun k => k < w.heap.size ∨ w1.heap.size ≤ k) (w1.alloc (.cells #[.int .i64 1, .int .i64 2] 3 (0, 0))) (some ⟨w1.heap.size, 0, none⟩) 2 2 [1, 2] := path_new (xs := [1, 2]) (n := 2) hn rfl (by omega) (by simp [I64]) (Or.inr (Nat.le_refl _)) 2
    have := credit _ _ _ b 0 Bk.new _ 2 2 [1, 2] 3 5 Ok.new (h.fresh (alloc1 w1 _)) hp (by constructor <;> omega) (by constructor <;> omega) (by omega)
    rw [show code Bk.new [1, 2] 3 5 = 0 by decide, show cre Bk.new [1, 2] 3 5 = exS from rfl] at this
    exact this
  have TK : Hid (∀ hi b w2, Book w2 w.heap.size hi b 3 exS → Calls Try.prog 19 #[.pointer (some ⟨b, 0, none⟩), .int .i64 3] w2 (Is (.int .i64 5) w2)) := Lib.hid fun hi b w2 h => by
    have := task w2 _ _ b 3 _ 3 (by constructor <;> omega) h
    rwa [exS_is.1] at this
  have GP : Hid (∀ hi b w2, Book w2 w.heap.size hi b 3 exS → Calls Try.prog 20 #[.pointer (some ⟨b, 0, none⟩), .int .i64 1] w2 (Is (.int .i64 5) w2) ∧ Calls Try.prog 20 #[.pointer (some ⟨b, 0, none⟩), .int .i64 2] w2 (Is (.int .i64 5) w2) ∧ Calls Try.prog 20 #[.pointer (some ⟨b, 0, none⟩), .int .i64 3] w2 (Is (.int .i64 0) w2)) := Lib.hid fun hi b w2 h => by
    have h1 := group w2 _ _ b 3 _ 1 (by constructor <;> omega) h
    have h2 := group w2 _ _ b 3 _ 2 (by constructor <;> omega) h
    have h3 := group w2 _ _ b 3 _ 3 (by constructor <;> omega) h
    rw [exS_is.2.1] at h1
    rw [exS_is.2.2.1] at h2
    rw [exS_is.2.2.2.1] at h3
    exact ⟨h1, h2, h3⟩
  have TT : Hid (∀ hi b w2, Book w2 w.heap.size hi b 3 exS → Calls Try.prog 17 #[.pointer (some ⟨b, 0, none⟩)] w2 (Is (.int .i64 5) w2)) := Lib.hid fun hi b w2 h => by
    have := total w2 _ _ b 3 _ h
    rwa [exS_is.2.2.2.2] at this
  have hg := Below.refl w.heap.size w
  go_enter Try.func9, Try.ntmps9
  go_wp2_with (first
    | (go_at_call 11; refine (N.out _).mono ?_; rintro e w1 ⟨b, rfl, hB, hg1⟩)
    | (go_at_call 15; refine (CR.out w1 b hB).mono ?_; rintro e w2 ⟨rfl, hB2, hbut⟩; replace hg := But.lower (fresh_trans hg1 (alloc1 w1 _)) hbut (Nat.le_refl _))
    | (go_at_call 19; refine (TK.out _ _ _ hB2).mono ?_; rintro e w3 ⟨rfl, hg3⟩; replace hB2 := hB2.fresh hg3; replace hg := hg.trans (hg3.mono hg.size); clear hg3)
    | (go_at_call 20; (first | with_reducible refine (GP.out _ _ _ hB2).1.mono ?_ | with_reducible refine (GP.out _ _ _ hB2).2.1.mono ?_ | with_reducible refine (GP.out _ _ _ hB2).2.2.mono ?_); rintro e w3 ⟨rfl, hg3⟩; replace hB2 := hB2.fresh hg3; replace hg := hg.trans (hg3.mono hg.size); clear hg3)
    | (go_at_call 17; refine (TT.out _ _ _ hB2).mono ?_; rintro e w3 ⟨rfl, hg3⟩; replace hB2 := hB2.fresh hg3; replace hg := hg.trans (hg3.mono hg.size); clear hg3))
  go_ret
  exact yes_of rfl hg
set_option maxHeartbeats 1000000 in
theorem nobodyLaw (v : Value) (n ns : Int) (w : World) : Calls Try.prog 8 #[v, .int .i64 n, .int .i64 ns] w (Yes w) := by
  have S := Lib.hid (fun w => shown w)
  have A1 := Lib.hid (fun w => credit_nil w v n ns)
  have A2 := Lib.hid (fun w => task_nil w n)
  have A3 := Lib.hid (fun w => group_nil w n)
  have A4 := Lib.hid (fun w => total_nil w)
  have A5 := Lib.hid (fun w => forget_nil w n)
  have A6 := Lib.hid (fun w => tasks_nil w)
  have hg := Below.refl w.heap.size w
  go_enter Try.func8, Try.ntmps8
  go_wp2_with (first
    | (go_at_call 9; refine (S.out _).mono ?_; rintro e w' ⟨rfl, hg1⟩; replace hg := fresh_trans hg hg1; clear hg1)
    | (go_at_call 15; refine (A1.out _).mono ?_; rintro e w' ⟨rfl, hg1⟩; replace hg := fresh_trans hg hg1; clear hg1)
    | (go_at_call 19; refine (A2.out _).mono ?_; rintro e w' ⟨rfl, hg1⟩; replace hg := fresh_trans hg hg1; clear hg1)
    | (go_at_call 20; refine (A3.out _).mono ?_; rintro e w' ⟨rfl, hg1⟩; replace hg := fresh_trans hg hg1; clear hg1)
    | (go_at_call 17; refine (A4.out _).mono ?_; rintro e w' ⟨rfl, hg1⟩; replace hg := fresh_trans hg hg1; clear hg1)
    | (go_at_call 12; refine (A5.out _).mono ?_; rintro e w' ⟨rfl, hg1⟩; replace hg := fresh_trans hg hg1; clear hg1)
    | (go_at_call 23; refine (A6.out _).mono ?_; rintro e w' ⟨rfl, hg1⟩; replace hg := fresh_trans hg hg1; clear hg1))
  go_ret
  exact yes_of rfl hg
end Go.Proofs.Ytnocgdhepmgncaa.Ledger
