/- That two entities take turns. Conditions: none. -/
import Derived.Test.YtfddefenmlcecaaQueueCharge
namespace Go.Proofs.Ytfddefenmlcecaa.Queue
open Go.ChangeShapes Go.WideShapes Go.ChangeAt Go.RowKit Tree
set_option linter.unusedVariables false
set_option linter.unusedSimpArgs false
set_option maxRecDepth 100000

abbrev IsTrue (w : World) (e : Ending) (w' : World) : Prop := e = .returned (.bool true) ∧ Below w.heap.size w w'
theorem Same.step {w a b : World} (h : Same (· < w.heap.size) w a) (k : Same (· < w.heap.size) a b) : Same (· < w.heap.size) w b := h.trans k

def e1 : Ent := ⟨1, 1024, 0, 0⟩
def e2 : Ent := ⟨2, 1024, 0, 0⟩
def s1 : St := ⟨[e1], -1, 0, false⟩
def s2 : St := ⟨[e1, e2], -1, 0, false⟩
def s3 : St := ⟨[e1, e2], 1, 0, false⟩
def s4 : St := ⟨[e2, ⟨1, 1024, 5, 0⟩], 1, 0, false⟩
def s5 : St := ⟨[e2, ⟨1, 1024, 5, 0⟩], 1, 0, false⟩
def s6 : St := ⟨[e2, ⟨1, 1024, 5, 0⟩], 2, 0, false⟩
theorem a1 : putS St.new e1 = s1 := by rfl
theorem a2 : putS s1 e2 = s2 := by rfl
theorem a3 : chosen s2 0 = 1 := by decide
theorem a4 : chargeS s3 5 = s4 := by rfl
theorem a5 : chosen s4 5 = 1 := by decide
theorem a6 : chosen s5 0 = 2 := by decide
theorem b1 : errPut St.new.es e1 = 0 := by decide
theorem b2 : errPut s1.es e2 = 0 := by decide
theorem b4 : errCharge s3 5 = 0 := by decide
theorem once2 {a b : Ent} (h : a.id ≠ b.id) : Once [a, b] := by simp [Once, h]

set_option maxHeartbeats 8000000 in
theorem awake (w : World) : Calls Try.prog 10 #[] w (IsTrue w) := by
  have N := Lib.hid (news w)
  have P1 := Lib.hid (fun w' q (h : Qu w' q (· < w.heap.size) St.new) hO => puts w' q (· < w.heap.size) St.new e1 h hO (by simp [I64, e1]) (by simp [e1]) (by simp [e1]) (by simp [St.new]))
  have P2 := Lib.hid (fun w' q (h : Qu w' q (· < w.heap.size) s1) hO => puts w' q (· < w.heap.size) s1 e2 h hO (by simp [I64, e2]) (by simp [e2]) (by simp [e2]) (by simp [s1]))
  have v2 : ∀ e ∈ s2.es, I64 e.v := by unfold s2 e1 e2 I64; simp
  have v4 : ∀ e ∈ s4.es, I64 e.v := by unfold s4 e2 I64; simp
  have K1 := Lib.hid (fun w' q (h : Qu w' q (· < w.heap.size) s2) hO => picks w' q (· < w.heap.size) s2 0 h hO (once2 (by decide)) (by unfold I64 s2; simp) (by unfold I64; omega) v2)
  have C := Lib.hid (fun w' q (h : Qu w' q (· < w.heap.size) s3) hO => charges w' q (· < w.heap.size) s3 5 h hO ⟨once2 (by decide), by unfold s3 e1 e2 I64; simp, by unfold s3; simp, by unfold I64 s3; simp, by unfold I64 s3; simp⟩ (by omega))
  have K2 := Lib.hid (fun w' q (h : Qu w' q (· < w.heap.size) s4) hO => picks w' q (· < w.heap.size) s4 5 h hO (once2 (by decide)) (by unfold I64 s4; simp) (by unfold I64; omega) v4)
  have K3 := Lib.hid (fun w' q (h : Qu w' q (· < w.heap.size) s5) hO => picks w' q (· < w.heap.size) s5 0 h hO (once2 (by decide)) (by unfold I64 s5; simp) (by unfold I64; omega) v4)
  have U := Lib.hid (fun w' q (h : Qu w' q (· < w.heap.size) s6) => currents w' q (· < w.heap.size) s6 h)
  have L := Lib.hid (fun w' q (h : Qu w' q (· < w.heap.size) s6) => loads w' q (· < w.heap.size) s6 h (once2 (by decide)) (by unfold s6 e2; simp) (by unfold s6; simp))
  rw [b1, a1] at P1
  rw [b2, a2] at P2
  rw [a3] at K1
  rw [b4, a4] at C
  rw [a5] at K2
  rw [a6] at K3
  rw [show total s6.es = 2048 by decide] at L
  rw [show s6.cur = 2 from rfl] at U
  change Hid (∀ w' q, Qu w' q (· < w.heap.size) s2 → (∀ k, k < w.heap.size → k < w'.heap.size) → Calls Try.prog 21 #[.pointer (some ⟨q, 0, none⟩), .int .i64 0] w' (Did (.int .i64 1) s3 q (· < w.heap.size) w')) at K1
  change Hid (∀ w' q, Qu w' q (· < w.heap.size) s4 → (∀ k, k < w.heap.size → k < w'.heap.size) → Calls Try.prog 21 #[.pointer (some ⟨q, 0, none⟩), .int .i64 5] w' (Did (.int .i64 1) s5 q (· < w.heap.size) w')) at K2
  change Hid (∀ w' q, Qu w' q (· < w.heap.size) s5 → (∀ k, k < w.heap.size → k < w'.heap.size) → Calls Try.prog 21 #[.pointer (some ⟨q, 0, none⟩), .int .i64 0] w' (Did (.int .i64 2) s6 q (· < w.heap.size) w')) at K3
  simp only [Ent.val, e1, e2] at P1 P2
  clear v2 v4
  generalize s1 = t1 at *
  generalize s2 = t2 at *
  generalize s3 = t3 at *
  generalize s4 = t4 at *
  generalize s5 = t5 at *
  generalize s6 = t6 at *
  go_enter Try.func10, Try.ntmps10
  go_wp2_with fail
  refine (N.out).mono ?_
  rintro e w1 ⟨q, hq, rfl, hg1, hb⟩
  have Q := Lib.hid (hb (· < w.heap.size) (fun b hb => hb))
  have S : Hid (Same (· < w.heap.size) w w1) := Same.of hg1 (fun i hi => hi)
  clear hg1 hb N
  go_wp2_with fail
  refine (P1.out _ q Q.out (fun k hk => Nat.lt_of_lt_of_le hk S.out.size)).mono ?_
  rintro e w2 ⟨rfl, hq2, hs2⟩
  replace S := Lib.hid (S.out.trans hs2)
  replace Q := Lib.hid hq2
  clear hq2 hs2 P1
  go_wp2_with fail
  refine (P2.out _ q Q.out (fun k hk => Nat.lt_of_lt_of_le hk S.out.size)).mono ?_
  rintro e w2 ⟨rfl, hq2, hs2⟩
  replace S := Lib.hid (S.out.trans hs2)
  replace Q := Lib.hid hq2
  clear hq2 hs2 P2
  go_wp2_with fail
  refine (K1.out _ q Q.out (fun k hk => Nat.lt_of_lt_of_le hk S.out.size)).mono ?_
  rintro e w2 ⟨rfl, hq2, hs2⟩
  replace S := Lib.hid (S.out.trans hs2)
  replace Q := Lib.hid hq2
  clear hq2 hs2 K1
  go_wp2_with fail
  refine (C.out _ q Q.out (fun k hk => Nat.lt_of_lt_of_le hk S.out.size)).mono ?_
  rintro e w2 ⟨rfl, hq2, hs2⟩
  replace S := Lib.hid (S.out.trans hs2)
  replace Q := Lib.hid hq2
  clear hq2 hs2 C
  go_wp2_with fail
  refine (K2.out _ q Q.out (fun k hk => Nat.lt_of_lt_of_le hk S.out.size)).mono ?_
  rintro e w2 ⟨rfl, hq2, hs2⟩
  replace S := Lib.hid (S.out.trans hs2)
  replace Q := Lib.hid hq2
  clear hq2 hs2 K2
  go_wp2_with fail
  refine (K3.out _ q Q.out (fun k hk => Nat.lt_of_lt_of_le hk S.out.size)).mono ?_
  rintro e w2 ⟨rfl, hq2, hs2⟩
  replace S := Lib.hid (S.out.trans hs2)
  replace Q := Lib.hid hq2
  clear hq2 hs2 K3
  go_wp2_with fail
  refine (U.out _ q Q.out).mono ?_
  rintro e w2 ⟨rfl, hg2⟩
  replace Q := Lib.hid (Q.out.fresh hg2)
  replace S := Lib.hid (S.out.trans (Same.of hg2 (fun k hk => Nat.lt_of_lt_of_le hk S.out.size)))
  clear hg2
  go_wp2_with fail
  refine (L.out _ q Q.out).mono ?_
  rintro e w2 ⟨rfl, hg2⟩
  replace S := Lib.hid (S.out.trans (Same.of hg2 (fun k hk => Nat.lt_of_lt_of_le hk S.out.size)))
  clear hg2
  go_wp2_with fail
  go_ret
  exact ⟨rfl, S.out.below⟩

end Go.Proofs.Ytfddefenmlcecaa.Queue
