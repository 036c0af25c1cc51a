/- What each call of package share returns. Conditions: each argument is a number of its kind. -/
import Derived.Test.YtkegbagmgjlniaaSharePlain
import Derived.Test.YtkegbagmgjlniaaWideMul
import Derived.LoopTactic
import Derived.Deep.LoopGhost
import Derived.Lib.Hide
import Derived.Maps.AppendAt
import Derived.Deep.AppendLies
namespace Go.Proofs.Ytkegbagmgjlniaa.Share
open Go.ChangeShapes Go.WideShapes Go.ChangeAt Go.RowKit Wide
set_option linter.unusedVariables false
set_option linter.unusedSimpArgs false

theorem infoU : (Try.prog.info? 22).map (fun i => (i.zero, i.size, i.bytes)) = some (some (.int .u64 0), 1, 8) := by kernel_rfl
theorem info_parts {o : Option TypeInfo} {z : Option Value} {s b : Nat} (h : o.map (fun i => (i.zero, i.size, i.bytes)) = some (z, s, b)) : ∃ i, o = some i ∧ i.zero = z ∧ i.size = s ∧ i.bytes = b := by
  cases o with
  | none => simp at h
  | some i => simp at h; exact ⟨i, rfl, h.1, h.2.1, h.2.2⟩
theorem cell_alloc {w : World} {a : Addr} {v : Value} (h : w.cell? a = some v) (o : Obj) : (w.alloc o).cell? a = some v :=
  (World.cell?_of_block (Below.heap_alloc w o a.block (World.block_lt_of_cell? w a h))).trans h
theorem lt_of {w : World} {k : Nat} {o : Obj} (h : w.heap[k]? = some o) : k < w.heap.size := (Array.getElem?_eq_some_iff.1 h).1
theorem heap_fresh {w w' : World} {k : Nat} {o : Obj} (h : w.heap[k]? = some o) (hg : Below w.heap.size w w') : w'.heap[k]? = some o := (hg.block k (lt_of h)).trans h
theorem alloc1 (w : World) (o : Obj) : Below w.heap.size w (w.alloc o) := (Below.refl _ w).alloc (Nat.le_refl _) o
theorem alloc2 (w : World) (o p : Obj) : Below w.heap.size w ((w.alloc o).alloc p) := (alloc1 w o).alloc (by simp) p
theorem cell_of_row (w : World) (g : Nat) (cur : Array Value) (e : TypeId) (q : Nat × Nat) (j : Nat) (h : w.heap[g]? = some (.cells cur e q)) : w.cell? ⟨g, j, none⟩ = cur[j]? := by simp [World.cell?, h]

/-- A slice of numbers, z 0 to z (len - 1). -/
def Lies (k : IntKind) (v : Option Addr) (len : Nat) (z : Nat → Int) (w : World) : Prop := ∀ j, j < len → ∃ b off, v = some ⟨b, off, none⟩ ∧ b < w.heap.size ∧ w.cell? ⟨b, off + j, none⟩ = some (.int k (z j))
theorem Lies.fresh {k : IntKind} {v : Option Addr} {len : Nat} {z : Nat → Int} {w w' : World} (h : Lies k v len z w) (hg : Below w.heap.size w w') : Lies k v len z w' := by
  intro j hj
  obtain ⟨b, o, e, hb, hc⟩ := h j hj
  exact ⟨b, o, e, by have := hg.size; omega, (hg.cell hb).trans hc⟩
theorem Lies.congr {k : IntKind} {v : Option Addr} {len : Nat} {y z : Nat → Int} {w : World} (h : Lies k v len y w) (he : ∀ j, j < len → y j = z j) : Lies k v len z w := by
  intro j hj
  rw [← he j hj]; exact h j hj
def us (z : Nat → Int) (n : Nat) : List Value := (List.range n).map fun j => .int .u64 (z j)
theorem us_length (z : Nat → Int) (n : Nat) : (us z n).length = n := by simp [us]
theorem us_succ (z : Nat → Int) (n : Nat) : us z (n + 1) = us z n ++ [.int .u64 (z n)] := by simp [us, List.range_succ]
theorem lies_own {w : World} {B n : Nat} {e : TypeId} {v : Value} {z : Nat → Int} (h : w.ownsRow B e 1 v n (us z n)) : ∃ ao cap, v = .slice ao n cap ∧ Lies .u64 ao n z w := by
  rcases h.2 with ⟨e1, e2⟩ | ⟨g, cap, cur, e1, h0, hg, h1⟩
  · exact ⟨none, 0, by rw [e1, e2], fun j hj => by omega⟩
  · refine ⟨some ⟨g, 0, none⟩, cap, e1, fun j hj => ?_⟩
    subst e1
    refine ⟨g, 0, rfl, (h.lt g rfl).2, ?_⟩
    rw [Nat.zero_add, h.cellAt _ (by omega)]
    simp [us, hj]

theorem owns_fresh {w w' : World} {B : Nat} {e : TypeId} {size : Nat} {v : Value} {n : Nat} {xs : List Value} (h : w.ownsRow B e size v n xs) (hB : Below w.heap.size w w') : w'.ownsRow B e size v n xs := by
  refine ⟨h.1, ?_⟩
  rcases h.2 with h1 | ⟨g, cap, cur, rfl, h0, hg, h1⟩
  · exact .inl h1
  · exact .inr ⟨g, cap, cur, rfl, h0, by rw [hB.block g (lt_of hg), hg], h1⟩

def One (k : IntKind) (n : Int) (w : World) (e : Ending) (w' : World) : Prop := e = .returned (.int k n) ∧ w = w'
def OneB (k : IntKind) (n : Int) (w : World) (e : Ending) (w' : World) : Prop := e = .returned (.int k n) ∧ Below w.heap.size w w'
theorem one_of {k : IntKind} {a b : Int} {w : World} (h : a = b) : One k b w (.returned (.int k a)) w := by subst h; exact ⟨rfl, rfl⟩
theorem oneB_of {k : IntKind} {a b : Int} {w w' : World} (h : a = b) (g : Below w.heap.size w w') : OneB k b w (.returned (.int k a)) w' := by subst h; exact ⟨rfl, g⟩
def Rowed (n : Nat) (z : Nat → Int) (w : World) (e : Ending) (w' : World) : Prop := ∃ ao cap, e = .returned (.slice ao n cap) ∧ Lies .u64 ao n z w' ∧ Below w.heap.size w w'

theorem holds (x : Int) (w : World) : Calls Try.prog 12 #[.int .u64 x] w (One .u64 (hold x) w) := by
  go_enter Try.func12, Try.ntmps12
  go_wp2
  all_goals (go_ret; exact one_of (by unfold hold; repeat' split <;> omega))

theorem weights (s h a : Int) (w : World) (hs : U64 s) (hh : U64 h) (ha : U64 a) : Calls Try.prog 10 #[.int .u64 s, .int .u64 h, .int .u64 a] w (OneB .u64 (wt s h a) w) := by
  have md := Lib.hid (fun w => mulDiv s h a w hs hh ha)
  have ha' := ha
  unfold U64 at ha'
  by_cases h0 : a = 0
  · subst h0
    have W := Lib.hid (wt_none s h)
    go_enter Try.func10, Try.ntmps10
    go_wp2
    go_ret
    exact oneB_of W.out.symm (Below.refl _ _)
  have h0' : (a == 0) = false := by simpa using h0
  obtain ⟨w1, w2⟩ := wt_can hs hh (show 1 ≤ a by omega)
  have W1 := Lib.hid w1
  have W2 := Lib.hid w2
  clear w1 w2
  generalize quo s h a = q at *
  generalize rst s h a = r at *
  generalize can s h a = c at *
  generalize wt s h a = x at *
  have hd := Lib.hid (fun w => holds q w)
  generalize hold q = y at *
  cases c
  · have W := Lib.hid (W2.out rfl)
    clear W1 W2
    go_enter Try.func10, Try.ntmps10
    go_wp2_with (first
      | (go_at_call 17; refine (md.out _).mono ?_; rintro e w1 ⟨rfl, hg⟩)
      | (go_at_call 12; refine (hd.out _).mono ?_; rintro e w2 ⟨rfl, rfl⟩))
    go_ret
    exact oneB_of W.out.symm hg
  · have W := Lib.hid (W1.out rfl)
    clear W1 W2
    go_enter Try.func10, Try.ntmps10
    go_wp2_with (first
      | (go_at_call 17; refine (md.out _).mono ?_; rintro e w1 ⟨rfl, hg⟩)
      | (go_at_call 12; refine (hd.out _).mono ?_; rintro e w2 ⟨rfl, rfl⟩))
    go_ret
    exact oneB_of W.out.symm hg

def SumI (z : Nat → Int) (len : Nat) (w : World) (t3 t8 : Value) (wr : World) : Prop := ∃ k : Nat, k ≤ len ∧ t3 = .int .u64 (tot z k) ∧ t8 = .int .i64 k ∧ wr = w
theorem sums (v : Option Addr) (len cap : Nat) (z : Nat → Int) (w : World) (hlen : len ≤ 9223372036854775807) (HZ : Hid (∀ j, j < len → U64 (z j))) (HC : Hid (Lies .u64 v len z w)) :
    Calls Try.prog 20 #[.slice v len cap] w (One .u64 (tot z len) w) := by
  go_enter Try.func20, Try.ntmps20
  go_wp2
  go_loopw [3, 8] (fun t3 t8 wr => SumI z len w t3 t8 wr) (fun _ i _ => len - (intOf i).toNat)
  case atStart => exact ⟨0, by omega, rfl, rfl, rfl⟩
  case round =>
    obtain ⟨k, hk, rfl, rfl, rfl⟩ := hrel
    obtain ⟨b0, b1⟩ := tot_bd (z := z) (n := k) (fun j hj => (HZ.out j (by omega)).1)
    by_cases hlt : k < len
    · have h3 : (k : Int) < len := by omega
      obtain ⟨b, o, rfl, hb, hc⟩ := HC.out k hlt
      obtain ⟨z0, z1⟩ := HZ.out k hlt
      by_cases ht : 18446744073709551615 - tot z k < z k
      · have T := Lib.hid (tot_top hlt (fun j hj => (HZ.out j hj).1) ht)
        generalize tot z k = t at *
        generalize z k = y at *
        go_wp2
        go_ret
        exact one_of T.out.symm
      · have T := Lib.hid (tot_next ht)
        generalize tot z k = t at *
        generalize z k = y at *
        go_wp2
        go_roundw
        case rel => exact ⟨k + 1, hlt, by rw [T.out], by go_num, rfl⟩
        case measure => simp [intOf]; omega
    · have h3 : ¬ (k : Int) < len := by omega
      obtain rfl : k = len := by omega
      generalize tot z k = t at *
      go_wp2
      go_ret
      exact ⟨rfl, rfl⟩

theorem weighers (s a : Int) (w : World) : Calls Try.prog 19 #[.int .u64 s, .int .u64 a] w
    (fun e w' => e = .returned (.func (.func 24) #[] #[.pointer (some ⟨w.heap.size, 0, none⟩), .pointer (some ⟨w.heap.size + 1, 0, none⟩)]) ∧ w' = (w.alloc (.cells #[.int .u64 s] 22)).alloc (.cells #[.int .u64 a] 22)) := by
  have hmf : ∀ (fn : Fn) (first cap : Array Value) (w : World), (Instr.makeFunc fn first cap).run Try.prog w = .ok (.func fn first cap) w := fun _ _ _ _ => rfl
  go_enter Try.func19, Try.ntmps19
  go_wp2
  go_ret
  exact ⟨rfl, rfl⟩
theorem weigh (s h a : Int) (x y : Nat) (w : World) (hs : U64 s) (hh : U64 h) (ha : U64 a) (c1 : w.heap[x]? = some (.cells #[.int .u64 s] 22 (0, 0))) (c2 : w.heap[y]? = some (.cells #[.int .u64 a] 22 (0, 0))) :
    Calls Try.prog 24 #[.int .u64 h, .pointer (some ⟨x, 0, none⟩), .pointer (some ⟨y, 0, none⟩)] w (OneB .u64 (wt s h a) w) := by
  have wg := Lib.hid (fun w => weights s h a w hs hh ha)
  generalize wt s h a = q at *
  have d1 : w.cell? ⟨x, 0, none⟩ = some (.int .u64 s) := by rw [cell_of_row w x _ _ _ _ c1]; rfl
  have d2 : w.cell? ⟨y, 0, none⟩ = some (.int .u64 a) := by rw [cell_of_row w y _ _ _ _ c2]; rfl
  go_enter Try.func24, Try.ntmps24
  go_wp2_with (go_at_call 10; refine (wg.out _).mono ?_; rintro e w2 ⟨rfl, hg⟩)
  go_ret
  exact ⟨rfl, hg⟩

def SplitI (len : Nat) (f : Nat → Int) (w1 : World) (left : Nat) (t6 t15 : Value) (wr : World) : Prop :=
  ∃ k : Nat, left + k = len ∧ t15 = .int .i64 k ∧ wr.ownsRow w1.heap.size 22 1 t6 k (us f k) ∧ Below w1.heap.size w1 wr

set_option maxHeartbeats 1000000 in
theorem splits (s : Int) (v : Option Addr) (len cap : Nat) (z : Nat → Int) (w : World) (hs : U64 s) (hlen : len ≤ 1000000) (HZ : Hid (∀ j, j < len → U64 (z j))) (HC : Hid (Lies .u64 v len z w)) :
    Calls Try.prog 15 #[.int .u64 s, .slice v len cap] w (Rowed len (fun j => wt s (z j) (tot z len)) w) := by
  obtain ⟨i0, hi, hz0, hz1, hz2⟩ := info_parts infoU
  have T := Lib.hid (sums v len cap z w (by omega) HZ HC)
  have ta : U64 (tot z len) := tot_bd (fun j hj => (HZ.out j hj).1)
  generalize tot z len = t at *
  have HW := Lib.hid (weighers s t w)
  go_enter Try.func15, Try.ntmps15
  go_wp2_with (first
    | (go_at_call 20; refine T.out.mono ?_; rintro e w1 ⟨rfl, rfl⟩)
    | (go_at_call 19; refine HW.out.mono ?_; rintro e w1 ⟨rfl, hw1⟩; replace hw1 := Lib.hid hw1))
  have hg1 : Below w.heap.size w w1 := by rw [hw1.out]; exact alloc2 _ _ _
  have c1 : w1.heap[w.heap.size]? = some (.cells #[.int .u64 s] 22 (0, 0)) := by rw [hw1.out, Below.heap_alloc _ _ _ (by simp), heap_alloc_new]
  have c2 : w1.heap[w.heap.size + 1]? = some (.cells #[.int .u64 t] 22 (0, 0)) := by rw [hw1.out, show w.heap.size + 1 = (w.alloc (.cells #[.int .u64 s] 22)).heap.size by simp, heap_alloc_new]
  have HC1 := Lib.hid (HC.out.fresh hg1)
  clear hw1 HW T
  have hs1 := hg1.size
  generalize w.heap.size + 1 = y at *
  go_loopg [6, 15] len (fun left t6 t15 wr => SplitI len (fun j => wt s (z j) t) w1 left t6 t15 wr)
  case atStart => exact ⟨0, by omega, rfl, World.ownsRow_nil _ _ _ _, Below.refl _ _⟩
  case round =>
    obtain ⟨k, hk, rfl, hown, hb⟩ := hrel
    by_cases hlt : k < len
    · have h3 : (k : Int) < len := by omega
      obtain ⟨b, o, rfl, hbl, hc⟩ := HC1.out k hlt
      replace hc := (hb.cell hbl).trans hc
      have CW := Lib.hid (weigh s (z k) t w.heap.size y wr hs (HZ.out k hlt) ta (heap_fresh c1 hb) (heap_fresh c2 hb))
      have E := Lib.hid (us_succ (fun j => wt s (z j) t) k)
      have HF := Lib.hid (fun (v' : Value) (w2 : World) (h : w2.ownsRow w1.heap.size 22 1 v' (k + 1) (us (fun j => wt s (z j) t) k ++ [.int .u64 (wt s (z k) t)])) (g : Below w1.heap.size w1 w2) => (show SplitI len (fun j => wt s (z j) t) w1 (gk - 1) v' (.int .i64 ((k : Int) + 1)) w2 from ⟨k + 1, by omega, by go_num, by rw [us_succ]; exact h, g⟩))
      have hl := us_length (fun j => wt s (z j) t) k
      generalize us (fun j => wt s (z j) t) k = U at *
      generalize wt s (z k) t = x at *
      generalize z k = zk at *
      have hzr := hb.size
      clear HC1 hbl
      go_wp2_with (first
        | (go_at_call 24; refine CW.out.mono ?_; rintro e w3 ⟨rfl, h3'⟩; have hrow : w3.ownsRow w1.heap.size 22 1 u6 k U := owns_fresh hown h3'; have hb3 := hb.trans (h3'.mono hzr); have hz3 := hb3.size; clear h3')
        | (at_builtin; refine wpList_append_own _ rfl (.tmp 19) (.tmp 23) 27 rfl w1.heap.size 22 i0 _ 1 8 Try.underlying27 hi hz0 hz1 hz2 rfl (by decide) _ _ _ rfl (hrow.alloc _) ⟨w3.heap.size, 0, none⟩ 1 1 [.int .u64 x] rfl rfl (World.news_of_block (heap_alloc_new w3 _)) (by simp [Value.oneCell']) (by simp only [maxLen]; omega) (by omega) (by simp; omega) ?_; intro v' w4 hown4 hgrow4 _; have hb4 := (hb3.alloc hz3 _).grown hgrow4 (by simp; omega) (fun j hj => (hrow.lt j hj).1)))
      go_roundg (gk - 1)
      case measure => omega
      case rel => exact HF.out _ _ hown4 hb4
    · have h3 : ¬ (k : Int) < len := by omega
      obtain rfl : k = len := by omega
      obtain ⟨ao, cp, rfl, hl⟩ := lies_own hown
      have HL := Lib.hid hl
      clear hown hl
      go_wp2_with fail
      go_ret
      exact ⟨ao, cp, rfl, HL.out, fresh_trans hg1 hb⟩
end Go.Proofs.Ytkegbagmgjlniaa.Share
