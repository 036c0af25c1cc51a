/- What New and Set of package quota do. Conditions: as each fact states them. -/
import Derived.Test.YtjjcaplkmbigdaaQuotaDraw
import Derived.OwnWalk
import Derived.Deep.OwnRows
import Derived.Lib.SliceRun
namespace Go.Proofs.Ytjjcaplkmbigdaa.Quota
open Go.ChangeShapes Go.WideShapes Go.ChangeAt Go.RowKit Mem
open Fix (I64)
set_option linter.unusedVariables false
set_option linter.unusedSimpArgs false
set_option maxRecDepth 100000

theorem infoL : (Try.prog.info? 2).map (fun i => (i.zero, i.size, i.bytes)) = some (some (.int .i64 0), 1, 8) := by kernel_rfl
theorem made_zero (n : Nat) : (madeCells #[Value.int .i64 0] n).toList = cL (List.replicate n 0) := by
  apply List.ext_getElem?
  intro k
  simp [madeCells, cL]
  by_cases h : k < n
  · simp [h, Nat.mod_one]
  · simp [h]
def IsNew (n : Nat) (w : World) (e : Ending) (w' : World) : Prop := e = .returned (.tuple #[.pointer (some ⟨w.heap.size + 1, 0, none⟩), .int .i64 0]) ∧ Band w' (w.heap.size + 1) (· < w.heap.size) (newS n) ∧ Below w.heap.size w w'
theorem new (w : World) (n : Nat) (h1 : 1 ≤ n) (h2 : n ≤ 64) : Calls Try.prog 11 #[.int .i64 n] w (IsNew n w) := by
  have M := run_make_row' (P := Try.prog) 28 2 (.int .i64 0) 8 Try.underlying28 infoL rfl .i64 .i64 n (by omega) (by omega) w
  have hn : (1 : Int) ≤ n := by omega
  have h3 : ¬ (n : Int) < 1 := by omega
  have h4 : ¬ (64 : Int) < n := by omega
  have own := World.ownsRow_lit (base := 0) (e := 2) (size := 1) w (madeCells #[Value.int .i64 0] n) n (by omega) (by simp [maxLen]; omega) (by simp [size_madeCells])
  rw [made_zero] at own
  have hl := heap_alloc_new (w.alloc (.cells (madeCells #[Value.int .i64 0] n) 2)) (.cells #[.int .i64 0, .int .i64 0, .int .i64 0, .slice (some ⟨w.heap.size, 0, none⟩) n n, .int .i64 0] 65 (0, 0))
  have hz : (w.alloc (.cells (madeCells #[Value.int .i64 0] n) 2)).heap.size = w.heap.size + 1 := by simp
  have HB : Hid (∀ W1, W1 = w.alloc (.cells (madeCells #[Value.int .i64 0] n) 2) → ∀ W2, W2 = W1.alloc (.cells #[.int .i64 0, .int .i64 0, .int .i64 0, .slice (some ⟨w.heap.size, 0, none⟩) n n, .int .i64 0] 65 (0, 0)) → Band W2 (w.heap.size + 1) (· < w.heap.size) (newS n) ∧ Below w.heap.size w W2) := by
    show _
    rintro W1 rfl W2 rfl
    rw [hz] at hl
    refine ⟨⟨w.heap.size, ⟨by simpa [newS] using hl, by omega, ?_, by omega⟩⟩, (alloc1 w _).alloc (by simp) _⟩
    have := own.alloc (.cells #[.int .i64 0, .int .i64 0, .int .i64 0, .slice (some ⟨w.heap.size, 0, none⟩) n n, .int .i64 0] 65 (0, 0))
    simpa [newS] using this
  clear own hl
  generalize w.alloc (.cells (madeCells #[Value.int .i64 0] n) 2) = W1 at *
  go_enter Try.func11, Try.ntmps11
  go_wp2
  go_ret2
  exact ⟨rfl, HB.out _ rfl _ rfl⟩
theorem new_none (w : World) (n : Int) (h : n < 1 ∨ 64 < n) : Calls Try.prog 11 #[.int .i64 n] w (Still (.tuple #[.pointer none, .int .i64 1]) w) := by
  by_cases h1 : n < 1
  all_goals
    go_enter Try.func11, Try.ntmps11
    go_wp2
    go_ret2
    exact ⟨rfl, rfl⟩

theorem set_nil (w : World) (q s : Int) : Calls Try.prog 13 #[.pointer none, .int .i64 q, .int .i64 s] w (Still (.int .i64 1) w) := by
  go_enter Try.func13, Try.ntmps13
  go_wp2
  go_ret; exact ⟨rfl, rfl⟩
theorem set_bad (w : World) (b : Nat) (q s : Int) (h : badSet q s = true) : Calls Try.prog 13 #[.pointer (some ⟨b, 0, none⟩), .int .i64 q, .int .i64 s] w (Still (.int .i64 1) w) := by
  simp only [badSet, Bool.or_eq_true, Bool.and_eq_true, decide_eq_true_eq] at h
  by_cases h1 : q < 0
  · clear h
    go_enter Try.func13, Try.ntmps13
    go_wp2
    go_ret; exact ⟨rfl, rfl⟩
  by_cases h2 : 1099511627776 < q
  · clear h
    go_enter Try.func13, Try.ntmps13
    go_wp2
    go_ret; exact ⟨rfl, rfl⟩
  have h3 : (q == 0) = false := by simp; omega
  have h4 : s < 1 ∨ 1099511627776 < s := by omega
  clear h
  by_cases h5 : s < 1
  · clear h4
    go_enter Try.func13, Try.ntmps13
    go_wp2
    go_ret; exact ⟨rfl, rfl⟩
  · have h6 : 1099511627776 < s := by omega
    clear h4
    go_enter Try.func13, Try.ntmps13
    go_wp2
    go_ret; exact ⟨rfl, rfl⟩

theorem clears {w : World} {b g : Nat} {O : Nat → Prop} {d : Bd} (h : Parts w b g O d) (hn : 0 < d.loc.length) (ty : TypeId) :
    (Builtin.clear_ #[28] ty #[.slice (some ⟨g, 0, none⟩) d.loc.length d.loc.length]).run Try.prog w = .ok (.tuple #[]) (w.setCells g 0 (List.replicate d.loc.length (.int .i64 0))) := by
  obtain ⟨i, hi, hz, _⟩ := info_parts infoL
  refine Lib.run_clear_slice w _ _ ty (.int .i64 0) Try.underlying28 (fun w => by simp [zeroValue, typeInfo, hi, hz]) rfl rfl g 0 _ _ hn (fun j hj => ?_) (fun j hj => ?_)
  · rw [Nat.zero_add, h.cell hj]; rfl
  · rw [Nat.zero_add]; exact h.free j
theorem set_good (w : World) (b : Nat) (O : Nat → Prop) (d : Bd) (q s : Int) (h : Band w b O d) (hO : ∀ k, O k → k < w.heap.size) (hn : 0 < d.loc.length) (hb : badSet q s = false) :
    Calls Try.prog 13 #[.pointer (some ⟨b, 0, none⟩), .int .i64 q, .int .i64 s] w (Did (.int .i64 0) (setS d q s) b O w) := by
  obtain ⟨g, h⟩ := h
  rw [show setS d q s = ⟨q, if q = 0 then 0 else s, q, List.replicate d.loc.length 0, 0⟩ by simp [setS, hb]]
  simp only [badSet, Bool.or_eq_false_iff, Bool.and_eq_false_iff, decide_eq_false_iff_not] at hb
  obtain ⟨c0, c1, c2, c3, c4, fz⟩ := h.cells
  obtain ⟨⟨q1, q2⟩, hb⟩ := hb
  have E : ∀ s', Parts ((((w.setCell ⟨b, 0, none⟩ (.int .i64 q)).setCell ⟨b, 1, none⟩ (.int .i64 s')).setCell ⟨b, 2, none⟩ (.int .i64 q)).setCell ⟨b, 4, none⟩ (.int .i64 0)) b g O ⟨q, s', q, d.loc, 0⟩ ∧ Same O w ((((w.setCell ⟨b, 0, none⟩ (.int .i64 q)).setCell ⟨b, 1, none⟩ (.int .i64 s')).setCell ⟨b, 2, none⟩ (.int .i64 q)).setCell ⟨b, 4, none⟩ (.int .i64 0)) := fun s' =>
    ⟨(((h.setQ q).setS s').setP q).setSp 0, ((((Same.refl O w).setCell (p := ⟨b, 0, none⟩) h.out _).setCell (p := ⟨b, 1, none⟩) h.out _).setCell (p := ⟨b, 2, none⟩) h.out _).setCell (p := ⟨b, 4, none⟩) h.out _⟩
  replace E := Lib.hid E
  by_cases hq : q = 0
  · subst hq
    rw [if_pos rfl]
    clear h
    go_enter Try.func13, Try.ntmps13
    go_upto_region 9 with fail
    obtain ⟨hP, hs⟩ := E.out 0
    clear c0 c1 c2 c3 c4 fz E
    generalize (((w.setCell ⟨b, 0, none⟩ (.int .i64 0)).setCell ⟨b, 1, none⟩ (.int .i64 0)).setCell ⟨b, 2, none⟩ (.int .i64 0)).setCell ⟨b, 4, none⟩ (.int .i64 0) = W at *
    obtain ⟨c0, c1, c2, c3, c4, fz⟩ := hP.cells
    have hcl := clears hP hn
    have A := Lib.hid (And.intro hP.setAll (Parts.sameAll hP.rout d.loc.length 0 hs))
    clear hP hs
    simp only at hcl c3 A
    generalize d.loc.length = n at *
    go_wp2
    go_ret
    exact ⟨rfl, ⟨g, A.out.1⟩, A.out.2⟩
  · rw [if_neg hq]
    have h3 : (q == 0) = false := by simpa using hq
    have h4 : ¬ s < 1 := by omega
    have h5 : ¬ 1099511627776 < s := by omega
    clear h hb
    go_enter Try.func13, Try.ntmps13
    go_upto_region 9 with fail
    obtain ⟨hP, hs⟩ := E.out s
    clear c0 c1 c2 c3 c4 fz E
    generalize (((w.setCell ⟨b, 0, none⟩ (.int .i64 q)).setCell ⟨b, 1, none⟩ (.int .i64 s)).setCell ⟨b, 2, none⟩ (.int .i64 q)).setCell ⟨b, 4, none⟩ (.int .i64 0) = W at *
    obtain ⟨c0, c1, c2, c3, c4, fz⟩ := hP.cells
    have hcl := clears hP hn
    have A := Lib.hid (And.intro hP.setAll (Parts.sameAll hP.rout d.loc.length 0 hs))
    clear hP hs
    simp only at hcl c3 A
    generalize d.loc.length = n at *
    go_wp2
    go_ret
    exact ⟨rfl, ⟨g, A.out.1⟩, A.out.2⟩
theorem set (w : World) (b : Nat) (O : Nat → Prop) (d : Bd) (q s : Int) (h : Band w b O d) (hO : ∀ k, O k → k < w.heap.size) (hn : 0 < d.loc.length) :
    Calls Try.prog 13 #[.pointer (some ⟨b, 0, none⟩), .int .i64 q, .int .i64 s] w (Did (.int .i64 (setE q s)) (setS d q s) b O w) := by
  cases hb : badSet q s
  · rw [show setE q s = 0 by simp [setE, hb]]
    exact set_good w b O d q s h hO hn hb
  · rw [show setE q s = 1 by simp [setE, hb], show setS d q s = d by simp [setS, hb]]
    refine (set_bad w b q s hb).mono ?_
    rintro e w' ⟨rfl, rfl⟩
    exact ⟨rfl, h, Same.refl _ _⟩
end Go.Proofs.Ytjjcaplkmbigdaa.Quota
