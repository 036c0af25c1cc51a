/- What Give of package fifo tells, and the document's. Conditions: each number is one of its kind, and 300 are in need at most. -/
import Derived.Test.YthphileaaoeamaaFifoList
namespace Go.Proofs.Ythphileaaoeamaa.Fifo
open Go.ChangeShapes Go.WideShapes Go.ChangeAt Go.RowKit Mem
set_option linter.unusedVariables false
set_option linter.unusedSimpArgs false
set_option maxRecDepth 100000

theorem still_of {k : IntKind} {a b : Int} {w : World} (h : a = b) : Still (.int k b) w (.returned (.int k a)) w := by subst h; exact ⟨rfl, rfl⟩
theorem wholes (n s : Int) (w : World) (h0 : 0 < n) (h1 : n ≤ 9223372036854775807) (h2 : 1 ≤ s) (h3 : s ≤ 9223372036854775807) :
    Calls Try.prog 27 #[.int .i64 n, .int .i64 s] w (Still (.int .i64 (whole n s)) w) := by
  have e2 := Int.emod_lt_of_pos n (show 0 < s by omega)
  have e3 := Int.emod_nonneg n (show s ≠ 0 by omega)
  unfold whole
  obtain ⟨j, hj⟩ : ∃ j, n % s = j := ⟨_, rfl⟩
  rw [hj] at e2 e3 ⊢
  have q0 : (s == 0) = false := by simp; omega
  have q1 : (0 : Int) ≤ n := by omega
  by_cases hz : j = 0
  · subst hz
    rw [if_pos rfl]
    go_enter Try.func27, Try.ntmps27
    go_wp2
    go_ret; exact ⟨rfl, rfl⟩
  · have hz' : (j == 0) = false := by simpa using hz
    rw [if_neg hz]
    by_cases hm : 9223372036854775807 - (s - j) < n
    · rw [if_pos hm]
      go_enter Try.func27, Try.ntmps27
      go_wp2
      go_ret; exact ⟨rfl, rfl⟩
    · rw [if_neg hm]
      go_enter Try.func27, Try.ntmps27
      go_wp2
      go_ret; exact still_of (by first | rfl | omega)
theorem parts (n p s : Int) (w : World) (hn : I64 n) (hp : I64 p) (hs : I64 s) : Calls Try.prog 25 #[.int .i64 n, .int .i64 p, .int .i64 s] w (Still (.int .i64 (part n p s)) w) := by
  unfold I64 at hn hp hs
  by_cases h1 : n ≤ 0
  · rw [part_none (.inl h1)]
    go_enter Try.func25, Try.ntmps25
    go_wp2
    go_ret; exact ⟨rfl, rfl⟩
  by_cases h2 : p ≤ 0
  · rw [part_none (.inr (.inl h2))]
    go_enter Try.func25, Try.ntmps25
    go_wp2
    go_ret; exact ⟨rfl, rfl⟩
  by_cases h3 : s < 1
  · rw [part_none (.inr (.inr h3))]
    go_enter Try.func25, Try.ntmps25
    go_wp2
    go_ret; exact ⟨rfl, rfl⟩
  rw [part_some h1 h2 h3]
  have W := Lib.hid (fun w => wholes n s w (by omega) (by omega) (by omega) (by omega))
  generalize whole n s = x at *
  go_enter Try.func25, Try.ntmps25
  go_wp2_with (go_at_call 27; refine (W.out _).mono ?_; rintro e w1 ⟨rfl, rfl⟩)
  all_goals (go_ret; exact still_of (by first | rfl | omega | (split <;> omega)))
theorem wants (n s : Int) (w : World) (hn : I64 n) (hs : I64 s) : Calls Try.prog 26 #[.int .i64 n, .int .i64 s] w (Still (.int .i64 (if n ≤ 0 ∨ s < 1 then 0 else whole n s)) w) := by
  unfold I64 at hn hs
  by_cases h1 : n ≤ 0
  · rw [if_pos (.inl h1)]
    go_enter Try.func26, Try.ntmps26
    go_wp2
    go_ret; exact ⟨rfl, rfl⟩
  by_cases h3 : s < 1
  · rw [if_pos (.inr h3)]
    go_enter Try.func26, Try.ntmps26
    go_wp2
    go_ret; exact ⟨rfl, rfl⟩
  rw [if_neg (by omega)]
  obtain ⟨d1, d2, d3⟩ := whole_doc (n := n) (s := s) (by omega) hn.2 (by omega)
  have e := Int.mul_ediv_add_emod n s
  have e2 := Int.emod_lt_of_pos n (show 0 < s by omega)
  have e3 := Int.emod_nonneg n (show s ≠ 0 by omega)
  have e4 : 0 ≤ n / s := Int.ediv_nonneg (by omega) (by omega)
  have e5 : n / s ≤ n := Int.ediv_le_self _ (by omega)
  have e6 : 0 ≤ 9223372036854775807 / s := Int.ediv_nonneg (by omega) (by omega)
  have q0 : (s == 0) = false := by simp; omega
  have q1 : (0 : Int) ≤ n := by omega
  rw [Int.mul_comm] at e
  obtain ⟨d, hd⟩ : ∃ d, n / s = d := ⟨_, rfl⟩
  obtain ⟨t, ht⟩ : ∃ t, 9223372036854775807 / s = t := ⟨_, rfl⟩
  rw [hd] at d1 d2 d3 e e4 e5
  rw [ht] at d2 d3 e6
  obtain ⟨m, hm⟩ : ∃ m, d * s = m := ⟨_, rfl⟩
  have m0 : 0 ≤ m := by rw [← hm]; exact Int.mul_nonneg (by omega) (by omega)
  rw [hm] at d1 d2 d3 e
  generalize n % s = j at *
  by_cases hz : m = n
  · have D := Lib.hid (d1 hz)
    have hz' : (m == n) = true := by simpa using hz
    clear d1 d2 d3
    go_enter Try.func26, Try.ntmps26
    go_wp2
    go_ret; exact still_of D.out.symm
  · have hz' : (m == n) = false := by simpa using hz
    by_cases hq : t ≤ d
    · have D := Lib.hid (d2 hz hq)
      clear d1 d2 d3
      go_enter Try.func26, Try.ntmps26
      go_wp2
      go_ret; exact still_of D.out.symm
    · obtain ⟨f1, f2⟩ := d3 hz (by omega)
      have D := Lib.hid f1
      obtain ⟨x, hx⟩ : ∃ x, (d + 1) * s = x := ⟨_, rfl⟩
      rw [hx] at f1 f2
      have f3 : 0 ≤ x := by rw [← hx]; exact Int.mul_nonneg (by omega) (by omega)
      clear d1 d2 d3
      have e7 : t ≤ 9223372036854775807 := by rw [← ht]; exact Int.ediv_le_self _ (by omega)
      have v1 : wrap64 (d + 1) = d + 1 := by unfold wrap64; omega
      have v2 : wrap64 x = x := by unfold wrap64; omega
      go_enter Try.func26, Try.ntmps26
      go_wp2
      go_ret; exact still_of (by first | rfl | exact f1.symm)
/-- A slice of numbers, z 0 to z (len - 1). -/
def Lies (v : Option Addr) (len : Nat) (z : Nat → Int) (w : World) : Prop := ∀ j, j < len → ∃ b off, v = some ⟨b, off, none⟩ ∧ b < w.heap.size ∧ w.cell? ⟨b, off + j, none⟩ = some (.int .i64 (z j))
theorem Lies.fresh {v : Option Addr} {len : Nat} {z : Nat → Int} {w w' : World} (h : Lies v len z w) (hg : Below w.heap.size w w') : Lies v len z w' := by
  intro j hj
  obtain ⟨b, o, e, hb, hc⟩ := h j hj
  exact ⟨b, o, e, by have := hg.size; omega, (hg.cell hb).trans hc⟩
def us (z : Nat → Int) (n : Nat) : List Value := (List.range n).map fun j => .int .i64 (z j)
theorem us_length (z : Nat → Int) (n : Nat) : (us z n).length = n := by simp [us]
theorem us_succ (z : Nat → Int) (n : Nat) : us z (n + 1) = us z n ++ [.int .i64 (z n)] := by simp [us, List.range_succ]
theorem lies_own {w : World} {B n : Nat} {e : TypeId} {v : Value} {z : Nat → Int} (h : w.ownsRow B e 1 v n (us z n)) : ∃ ao cap, v = .slice ao n cap ∧ Lies ao n z w := by
  rcases h.2 with ⟨e1, e2⟩ | ⟨g, cap, cur, e1, h0, hg, h1⟩
  · exact ⟨none, 0, by rw [e1, e2], fun j hj => by omega⟩
  · refine ⟨some ⟨g, 0, none⟩, cap, e1, fun j hj => ?_⟩
    subst e1
    refine ⟨g, 0, rfl, (h.lt g rfl).2, ?_⟩
    rw [Nat.zero_add, h.cellAt _ (by omega)]
    simp [us, hj]
def got (z : Nat → Int) (p s : Int) (j : Nat) : Int := part (z j) (left z p s j) s
/-- What is given, in new memory, and what is left. -/
def Given (n : Nat) (z : Nat → Int) (p s : Int) (w : World) (e : Ending) (w' : World) : Prop := ∃ ao cap, e = .returned (.tuple #[.slice ao n cap, .int .i64 (left z p s n)]) ∧ Lies ao n (got z p s) w' ∧ Below w.heap.size w w'
def GiveI (n : Nat) (z : Nat → Int) (p s : Int) (w : World) (lf : Nat) (t u v : Value) (wr : World) : Prop :=
  ∃ k : Nat, k ≤ n ∧ lf = n - k ∧ u = .int .i64 k ∧ v = .int .i64 (left z p s k) ∧ wr.ownsRow w.heap.size 2 1 t k (us (got z p s) k) ∧ Below w.heap.size w wr
theorem infoL : (Try.prog.info? 2).map (fun i => (i.zero, i.size, i.bytes)) = some (some (.int .i64 0), 1, 8) := by kernel_rfl

set_option maxHeartbeats 2000000 in
theorem gives (v : Option Addr) (n cap : Nat) (z : Nat → Int) (p s : Int) (w : World) (hp : I64 p) (hs : I64 s) (hn : n ≤ 300) (HZ : Hid (∀ j, j < n → I64 (z j))) (HC : Hid (Lies v n z w)) :
    Calls Try.prog 19 #[.slice v n cap, .int .i64 p, .int .i64 s] w (Given n z p s w) := by
  obtain ⟨i0, hi, hz0, hz1, hz2⟩ := info_parts infoL
  have M := run_make (P := Try.prog) w 38 2 i0 (.int .i64 0) Try.underlying38 hi hz0 .i64 .i64 0 (n : Int) (by omega) (by omega) (by rw [hz2]; omega) (by omega)
  simp only [hz1, Int.toNat_natCast, Int.toNat_zero, Nat.mul_one] at M
  have own0 := World.ownsRow_made (base := w.heap.size) (e := 2) (size := 1) w (madeCells (Value.int .i64 0).cells n) n (Nat.le_refl _) (by simp [maxLen]; omega) (by simp [size_madeCells])
  have hg0 := alloc1 w (.cells (madeCells (Value.int .i64 0).cells n) 2)
  generalize w.alloc (.cells (madeCells (Value.int .i64 0).cells n) 2) = W at *
  have hni : (n : Int) ≤ 300 := by omega
  go_enter Try.func19, Try.ntmps19
  go_wp2
  go_loopg [1, 8, 17] n (fun lf pv t u wr => GiveI n z p s w lf t u pv wr)
  case atStart => exact ⟨0, by omega, rfl, rfl, rfl, own0, hg0⟩
  case round =>
    obtain ⟨k, hk, rfl, rfl, rfl, hown, hb⟩ := hrel
    clear M own0 hg0
    by_cases hlt : k < n
    · have h3 : (k : Int) < n := by omega
      obtain ⟨b, o, rfl, hbl, hc⟩ := HC.out k hlt
      replace hc := (hb.cell hbl).trans hc
      have hl0 := left_i64 (s := s) hp k (fun j hj => HZ.out j (by omega))
      have PA := Lib.hid (fun w => parts (z k) (left z p s k) s w (HZ.out k hlt) hl0 hs)
      obtain ⟨pa, pb⟩ := part_i64 (s := s) (HZ.out k hlt) hl0
      have HF := Lib.hid (fun (v' : Value) (w2 : World) (hh : w2.ownsRow w.heap.size 2 1 v' (k + 1) (us (got z p s) k ++ [.int .i64 (part (z k) (left z p s k) s)])) (g : Below w.heap.size w w2) => (show GiveI n z p s w (n - (k + 1)) v' (.int .i64 ((k : Int) + 1)) (.int .i64 (left z p s k - part (z k) (left z p s k) s)) w2 from ⟨k + 1, by omega, rfl, by go_num, rfl, by rw [us_succ]; exact hh, g⟩))
      have hl := us_length (got z p s) k
      generalize us (got z p s) k = U at *
      generalize part (z k) (left z p s k) s = x at *
      generalize left z p s k = q at *
      generalize z k = zk at *
      unfold I64 at pa pb hl0
      have hzr := hb.size
      clear hbl
      go_wp2_with (first
        | (go_at_call 25; refine (PA.out _).mono ?_; rintro e w3 ⟨rfl, rfl⟩)
        | (at_builtin; refine wpList_append_own _ rfl (.tmp 25) (.tmp 27) 38 rfl w.heap.size 2 i0 _ 1 8 Try.underlying38 hi hz0 hz1 hz2 rfl (by decide) _ _ _ rfl (hown.alloc _) ⟨w3.heap.size, 0, none⟩ 1 1 [.int .i64 x] rfl rfl (World.news_of_block (heap_alloc_new w3 _)) (by simp [Value.oneCell']) (by simp only [maxLen]; omega) (by omega) (by simp; omega) ?_; intro v' w4 hown4 hgrow4 _; have hb4 := (hb.alloc hzr _).grown hgrow4 (by simp; omega) (fun j hj => (hown.lt j hj).1)))
      go_roundg (n - (k + 1))
      case measure => omega
      case rel => exact HF.out _ _ hown4 hb4
    · have h3 : ¬ (k : Int) < n := by omega
      obtain rfl : k = n := by omega
      obtain ⟨ao, cp, rfl, hl⟩ := lies_own hown
      have HL := Lib.hid hl
      clear hown hl
      go_wp2_with fail
      go_ret2
      exact ⟨ao, cp, rfl, HL.out, hb⟩
end Go.Proofs.Ythphileaaoeamaa.Fifo
