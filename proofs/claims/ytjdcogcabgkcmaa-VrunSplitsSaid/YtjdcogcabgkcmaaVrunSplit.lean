/- The walks of VrunSplits and VrunCharges. Conditions: each argument is a number of its kind. -/
import Derived.Test.YtjdcogcabgkcmaaVrunLaws
import Derived.LoopTactic
import Derived.Deep.LoopGhost
namespace Go.Proofs.Ytjdcogcabgkcmaa.Vrun
open Go.ChangeShapes Go.WideShapes Go.ChangeAt Go.RowKit
set_option linter.unusedVariables false

theorem whole_of {x s o n : Int} (x1 : 2 ≤ x) (o0 : 0 ≤ o) (o1 : o < x) (h : s * x + o = n) : n / x = s ∧ n % x = o := by
  subst h
  rw [Int.add_comm, Int.add_mul_ediv_right _ _ (by omega), Int.add_mul_emod_self_right, Int.ediv_eq_zero_of_lt o0 o1, Int.emod_eq_of_lt o0 o1]
  exact ⟨by omega, rfl⟩

def SplitI (x l : Int) (len : Nat) (w : World) (t10 t11 t12 t13 : Value) (wr : World) : Prop :=
  ∃ (k : Nat) (o al s : Int), k ≤ len ∧ k ≤ 50 ∧ t10 = .int .u64 o ∧ t11 = .int .u64 al ∧ t12 = .int .i64 s ∧ t13 = .int .i64 k ∧ 0 ≤ o ∧ o < x ∧ 0 ≤ al ∧ al ≤ 20000000 * k ∧ 0 ≤ s ∧ s ≤ 1099511627776 * k ∧ Hid (s * x + o = l + 1024 * al) ∧ Below w.heap.size w wr

theorem splits_as (a b x l : Int) (v : Option Addr) (len cap : Nat) (zs : List Int) (w : World) (C0 : Hid (∀ w, Calls Try.prog 15 #[.int .u32 a, .int .u32 b] w (Two x l w)))
    (x1 : 2 ≤ x) (x2 : x ≤ 262144) (l0 : 0 ≤ l) (l1 : l < x) (hlen : len ≤ 9223372036854775807) (HZ : Hid (∀ j : Nat, 0 ≤ zs[j]?.getD 0 ∧ zs[j]?.getD 0 ≤ 4294967295))
    (HC : Hid (∀ j, j < len → ∃ k off, v = some ⟨k, off, none⟩ ∧ k < w.heap.size ∧ w.cell? ⟨k, off + j, none⟩ = some (.int .u32 (zs[j]?.getD 0)))) :
    Calls Try.prog 4 #[.int .u32 a, .int .u32 b, .slice v len cap] w (Yes w) := by
  have hg := Below.refl w.heap.size w
  go_enter Try.func4, Try.ntmps4
  go_wp2_with (first
    | (go_at_call 10; refine (awake _).mono ?_; rintro e w1 ⟨rfl, hg1⟩; replace hg := fresh_trans hg hg1; clear hg1)
    | (go_at_call 15; refine (C0.out _).mono ?_; rintro e w1 ⟨rfl, hg1⟩; replace hg := fresh_trans hg hg1; clear hg1))
  go_loopw [10, 11, 12, 13] (fun t10 t11 t12 t13 wr => SplitI x l len w t10 t11 t12 t13 wr) (fun _ _ _ i _ => 50 - (intOf i).toNat)
  case atStart => exact ⟨0, l, 0, 0, by omega, by omega, rfl, rfl, rfl, rfl, l0, l1, by omega, by omega, by omega, by omega, Lib.hid (by omega), hg⟩
  case round =>
    clear hg
    obtain ⟨k, o, al, s, hk1, hk2, rfl, rfl, rfl, rfl, o0, o1, al0, al1, s0, s1, HE, hg⟩ := hrel
    by_cases hlt : k < len ∧ k < 50
    · obtain ⟨h1, h2⟩ := hlt
      obtain ⟨j, off, rfl, hj, hcell⟩ := HC.out k h1
      obtain ⟨p0, p1⟩ := HZ.out k
      have hcell' := (hg.cell hj).trans hcell
      clear hcell
      generalize zs[k]?.getD 0 = p at p0 p1 hcell'
      obtain ⟨q1, q2, q3, q4⟩ := quot_bd (t := p % 20000000) x1 o1 o0 x2 (by omega) (by omega)
      have C1 := Lib.hid (fun w => chg_in x o (p % 20000000) _ _ _ w rfl rfl rfl x1 x2 o0 o1 (by omega) (by omega))
      have HD := Lib.hid (Int.emod_add_mul_ediv (o + 1024 * (p % 20000000)) x)
      generalize (o + 1024 * (p % 20000000)) / x = d at *
      generalize (o + 1024 * (p % 20000000)) % x = r at *
      have h3 : ¬ d < 0 := by omega
      have h4 : (k : Int) < len := by omega
      have h5 : (k : Int) < 50 := by omega
      go_wp2_with (first
        | (go_at_call 11; refine (C1.out _).mono ?_; rintro e w1 ⟨rfl, hg1⟩; replace hg := fresh_trans hg hg1; clear hg1))
      go_roundw
      case rel => exact ⟨k + 1, r, al + p % 20000000, s + d, by omega, by omega, rfl, by go_num, by go_num, by go_num, q3, q4, by omega, by omega, by omega, by omega, Lib.hid (by have := HE.out; have := HD.out; rw [Int.mul_comm x] at this; rw [Int.add_mul]; omega), hg⟩
      case measure => simp [intOf]; omega
    · obtain ⟨z1, z2⟩ := whole_of x1 o0 o1 HE.out
      have C2 := Lib.hid (fun w => chg_in x l al _ _ _ w rfl rfl rfl x1 x2 l0 l1 al0 (by omega))
      rw [z1, z2] at C2
      by_cases h1 : (k : Int) < len
      · have h2 : ¬ (k : Int) < 50 := by omega
        go_wp2_with (first
          | (go_at_call 11; refine (C2.out _).mono ?_; rintro e w1 ⟨rfl, hg1⟩; replace hg := fresh_trans hg hg1; clear hg1))
        go_ret
        exact yes_of (by simp) hg
      · go_wp2_with (first
          | (go_at_call 11; refine (C2.out _).mono ?_; rintro e w1 ⟨rfl, hg1⟩; replace hg := fresh_trans hg hg1; clear hg1))
        go_ret
        exact yes_of (by simp) hg
theorem splitsLaw (a b : Int) (v : Option Addr) (len cap : Nat) (zs : List Int) (w : World) (a0 : 0 ≤ a) (a1 : a ≤ 4294967295) (b0 : 0 ≤ b) (b1 : b ≤ 4294967295) (hlen : len ≤ 9223372036854775807) (hz : ∀ n ∈ zs, (Lit.int .u32 n).wf = true)
    (hc : ∀ j, j < len → ∃ k off, v = some ⟨k, off, none⟩ ∧ k < w.heap.size ∧ w.cell? ⟨k, off + j, none⟩ = some (.int .u32 (zs[j]?.getD 0))) :
    Calls Try.prog 4 #[.int .u32 a, .int .u32 b, .slice v len cap] w (Yes w) := by
  obtain ⟨x1, x2⟩ := wx_bd a
  obtain ⟨l0, l1⟩ := lx_bd a b
  exact splits_as a b _ _ v len cap zs w (Lib.hid fun w => weight a b w a0 a1 b0 b1) x1 x2 l0 l1 hlen (Lib.hid (range_u32 hz)) (Lib.hid hc)

theorem three {w w0 w1 : World} {x0 x1 x2 : Value} {t : TypeId} (h : Below w0.heap.size w0 w1) (e : w0 = w.alloc (.cells #[x0, x1, x2] t)) :
    w1.cell? ⟨w.heap.size, 0, none⟩ = some x0 ∧ w1.cell? ⟨w.heap.size, 1, none⟩ = some x1 ∧ w1.cell? ⟨w.heap.size, 2, none⟩ = some x2 := by
  subst e
  refine ⟨?_, ?_, ?_⟩ <;> (rw [h.cell (by simp)]; simp [go_sem])

theorem chargesLaw (x r t d : Int) (w : World) (hx : 0 ≤ x) (hr : 0 ≤ r) (ht : 0 ≤ t) :
    Calls Try.prog 3 #[.agg #[.int .u64 x, .int .u64 r, .int .u64 t], .int .i64 d] w (Yes w) := by
  have m1 := Lib.hid (fun w => charge x r t w hx hr ht)
  have m2 := Lib.hid (fun w => refCharge x r t w hx hr ht)
  have m3 := Lib.hid (fun w => need x r d w hx hr)
  have m4 := Lib.hid (fun w => refNeed x r d w hx hr)
  generalize cval x r t = v1 at m1 m2
  generalize crem x r t = v2 at m1 m2
  generalize cerr x r t = v3 at m1 m2
  generalize nval x r d = v4 at m3 m4
  generalize nerr x r d = v5 at m3 m4
  have hg := Below.refl w.heap.size w
  go_enter Try.func3, Try.ntmps3
  go_wp2_with (first
    | (go_at_call 10; refine (awake _).mono ?_; rintro e w1 ⟨rfl, hg1⟩; obtain ⟨k0, k1, k2⟩ := three hg1 rfl; replace hg := fresh_trans (hg.alloc (Nat.le_refl _) _) hg1; clear hg1)
    | (go_at_call 11; refine (m1.out _).mono ?_; rintro e w1 ⟨rfl, hg1⟩; replace hg := fresh_trans hg hg1; clear hg1)
    | (go_at_call 12; refine (m2.out _).mono ?_; rintro e w1 ⟨rfl, hg1⟩; replace hg := fresh_trans hg hg1; clear hg1)
    | (go_at_call 13; refine (m3.out _).mono ?_; rintro e w1 ⟨rfl, hg1⟩; replace hg := fresh_trans hg hg1; clear hg1)
    | (go_at_call 14; refine (m4.out _).mono ?_; rintro e w1 ⟨rfl, hg1⟩; replace hg := fresh_trans hg hg1; clear hg1))
  go_ret
  exact yes_of (by simp) hg
end Go.Proofs.Ytjdcogcabgkcmaa.Vrun
