/- Whether a path may be: cloned, sorted, each once. Conditions: as each fact states them. -/
import Derived.Test.YtnocgdhepmgncaaLedgerMem
import Derived.Test.YtnocgdhepmgncaaShelf
import Derived.Lib.SlKeysI
import Derived.Lib.RowBridge
namespace Go.Proofs.Ytnocgdhepmgncaa.Ledger
open Go.ChangeShapes Go.WideShapes Go.ChangeAt Go.RowKit Go.Sort Mem
set_option linter.unusedVariables false
set_option linter.unusedSimpArgs false
set_option maxRecDepth 100000

abbrev cL (l : List Int) : List Value := l.map (Value.int .i64)
/-- A slice of numbers, in blocks of B. -/
structure Path (B : Nat → Prop) (w : World) (a : Option Addr) (n c : Nat) (xs : List Int) : Prop where
  len : xs.length = n
  big : n * 8 ≤ 140737488355328
  nil_ : a = none → n = 0 ∧ c = 0
  at_ : ∀ j x, xs[j]? = some x → I64 x ∧ ∃ k off, a = some ⟨k, off, none⟩ ∧ B k ∧ k < w.heap.size ∧ w.cell? ⟨k, off + j, none⟩ = some (.int .i64 x)
theorem Path.on {B : Nat → Prop} {w w' : World} {a : Option Addr} {n c : Nat} {xs : List Int} (h : Path B w a n c xs) (hs : w.heap.size ≤ w'.heap.size) (hg : ∀ k, B k → k < w.heap.size → w'.heap[k]? = w.heap[k]?) : Path B w' a n c xs :=
  { h with at_ := fun j x hj => by obtain ⟨r, k, off, e, hB, hk, hc⟩ := h.at_ j x hj; exact ⟨r, k, off, e, hB, by omega, (World.cell?_of_block (hg k hB hk)).trans hc⟩ }
theorem Path.fresh {B : Nat → Prop} {w w' : World} {a : Option Addr} {n c : Nat} {xs : List Int} (h : Path B w a n c xs) (hg : Below w.heap.size w w') : Path B w' a n c xs := h.on hg.size fun k _ hk => hg.block k hk
theorem Path.lift {B B' : Nat → Prop} {w : World} {a : Option Addr} {n c : Nat} {xs : List Int} (h : Path B w a n c xs) (hB : ∀ k, B k → B' k) : Path B' w a n c xs :=
  { h with at_ := fun j x hj => by obtain ⟨r, k, off, e, hb, hk, hc⟩ := h.at_ j x hj; exact ⟨r, k, off, e, hB k hb, hk, hc⟩ }
/-- What Clone hands back. -/
def Cloned (n : Nat) (xs : List Int) (w : World) (e : Ending) (w' : World) : Prop := ∃ ao cap, e = .returned (.slice ao n cap) ∧ w'.ownsRow w.heap.size 3 1 (.slice ao n cap) n (cL xs) ∧ Below w.heap.size w w'
theorem clones (B : Nat → Prop) (w : World) (a : Option Addr) (n c : Nat) (xs : List Int) (h : Path B w a n c xs) : Calls Try.prog 30 #[.slice a n c] w (Cloned n xs w) := by
  cases a with
  | none =>
    obtain ⟨rfl, rfl⟩ := h.nil_ rfl
    obtain rfl : xs = [] := List.eq_nil_of_length_eq_zero h.len
    refine (Try.slices_Clone_int_nil 0 0 w).mono ?_
    rintro e w' ⟨rfl, rfl⟩
    exact ⟨none, 0, rfl, World.ownsRow_nil _ _ _ _, Below.refl _ _⟩
  | some ad =>
    rcases Nat.eq_zero_or_pos n with rfl | hn
    · obtain rfl : xs = [] := List.eq_nil_of_length_eq_zero h.len
      refine (Try.slices_Clone_int_zero ad c w).mono ?_
      rintro e w' ⟨v', rfl, ho, _, hb⟩
      obtain ⟨ao, cap, rfl⟩ := owns_shape ho
      exact ⟨ao, cap, rfl, ho, hb⟩
    · have hl := h.len
      obtain ⟨x0, hx0⟩ : ∃ x, xs[0]? = some x := ⟨_, List.getElem?_eq_getElem (by omega)⟩
      obtain ⟨_, k, off, e, _, _, _⟩ := h.at_ 0 x0 hx0
      cases e
      refine (Try.slices_Clone_int k off n c xs w (by omega) h.big ?_).mono ?_
      · intro j hj
        obtain ⟨_, k', off', e, _, _, hc⟩ := h.at_ j _ (List.getElem?_eq_getElem hj)
        cases e
        rw [hc]
        simp [List.getD, hj]
      · rintro e w' ⟨v', rfl, ho, _, hb⟩
        rw [List.take_of_length_le (by omega)] at ho
        obtain ⟨ao, cap, rfl⟩ := owns_shape ho
        exact ⟨ao, cap, rfl, ho, hb⟩
abbrev srt (xs : List Int) : List Int := xs.mergeSort (fun x y => decide (x ≤ y))
theorem srt_len (xs : List Int) : (srt xs).length = xs.length := (List.mergeSort_perm xs _).length_eq
/-- What Sort does to a row of the call's own. -/
def Sorted (B : Nat) (ao : Option Addr) (n cap : Nat) (xs : List Int) (w : World) (e : Ending) (w' : World) : Prop := e = .returned (.tuple #[]) ∧ w'.ownsRow B 3 1 (.slice ao n cap) n (cL (srt xs)) ∧ Below B w w'
theorem sorts (B : Nat) (w : World) (ao : Option Addr) (n cap : Nat) (xs : List Int) (hB : B ≤ w.heap.size) (hl : xs.length = n) (hn : n < 4611686018427387904) (h : w.ownsRow B 3 1 (.slice ao n cap) n (cL xs)) :
    Calls Try.prog 31 #[.slice ao n cap] w (Sorted B ao n cap xs w) := by
  subst hl
  by_cases h0 : xs.length = 0
  · obtain rfl : xs = [] := List.eq_nil_of_length_eq_zero h0
    refine (Try.slices_Sort_int_none ao cap w).mono ?_
    rintro e w' ⟨rfl, rfl⟩
    exact ⟨rfl, by simpa [srt] using h, Below.refl _ _⟩
  · rcases h.2 with ⟨e, e0⟩ | ⟨g, cp, cur, e, hbase, hg, h1, h2, h3, h4⟩
    · exact absurd e0 h0
    · cases e
      refine (Try.slices_Sort_int g 0 cap xs w (holds_of_block_i hg (by simpa using h4)) (lt_of hg) (by omega)).mono ?_
      rintro e w' ⟨rfl, k, os, rfl⟩
      exact ⟨rfl, ownsRow_sorted_i (srt_len xs) hbase hg h1 h2 h3, (Below.refl _ _).grown (grownBy_sorted_i _) hB (fun j hj => by cases hj; exact hbase)⟩
theorem grown_put {w : World} {g n : Nat} (d : Array Int) : w.grownBy (putRow (Value.int .i64) (Sort.ahead w n) g 0 d) (some g) := by
  refine ⟨rfl, rfl, rfl, by simp, fun k hk hne => ?_⟩
  have : g ≠ k := fun e => hne (by rw [e])
  simp [putRow, mapBlock, Sort.ahead, Array.getElem?_modify, this]
/-- What Compact hands back: how long. -/
def Packed (B : Nat) (m : Nat) (w : World) (e : Ending) (w' : World) : Prop := ∃ ao cap, e = .returned (.slice ao m cap) ∧ Below B w w'
theorem packs (B : Nat) (w : World) (ao : Option Addr) (n cap : Nat) (xs : List Int) (hB : B ≤ w.heap.size) (hl : xs.length = n) (hn : n < 4611686018427387904) (h : w.ownsRow B 3 1 (.slice ao n cap) n (cL xs)) :
    Calls Try.prog 32 #[.slice ao n cap] w (Packed B (Lib.compact xs).length w) := by
  subst hl
  by_cases h0 : xs.length = 0
  · obtain rfl : xs = [] := List.eq_nil_of_length_eq_zero h0
    refine (Try.slices_Compact_int_empty ao cap w).mono ?_
    rintro e w' ⟨rfl, rfl⟩
    exact ⟨ao, cap, rfl, Below.refl _ _⟩
  · rcases h.2 with ⟨e, e0⟩ | ⟨g, cp, cur, e, hbase, hg, h1, h2, h3, h4⟩
    · exact absurd e0 h0
    · cases e
      have hH := holds_of_block_i hg (by simpa using h4)
      have hle := Lib.compact_length_le xs
      refine (Try.slices_Compact_int g 0 cap xs w hH (by omega) h1).mono ?_
      rintro e w' ⟨rfl, q, rfl⟩
      exact ⟨_, cap, rfl, (Below.refl _ _).grown (grown_put _) hB (fun j hj => by cases hj; exact hbase)⟩
set_option maxHeartbeats 1000000 in
theorem sound (B : Nat → Prop) (w : World) (a : Option Addr) (n c : Nat) (xs : List Int) (h : Path B w a n c xs) : Calls Try.prog 27 #[.slice a n c] w (Is (.bool (good xs)) w) := by
  have hl := h.len
  have hbig := h.big
  have C := Lib.hid (clones B w a n c xs h)
  have G := sorted_good xs
  clear h
  by_cases hn : n = 0
  · subst hn
    obtain rfl : xs = [] := List.eq_nil_of_length_eq_zero hl
    have SS : Hid (∀ (w1 : World) (ao : Option Addr) (cap : Nat), Below w.heap.size w w1 → w1.ownsRow w.heap.size 3 1 (.slice ao 0 cap) 0 (cL []) → Calls Try.prog 31 #[.slice ao 0 cap] w1 (Sorted w.heap.size ao 0 cap [] w1)) := fun w1 ao cap hb ho => sorts w.heap.size w1 ao 0 cap [] hb.size rfl (by omega) ho
    have PP : Hid (∀ (w1 w2 : World) (ao : Option Addr) (cap : Nat), Below w.heap.size w w1 → Below w.heap.size w1 w2 → w2.ownsRow w.heap.size 3 1 (.slice ao 0 cap) 0 (cL (srt [])) → Calls Try.prog 32 #[.slice ao 0 cap] w2 (Packed w.heap.size 0 w2)) := fun w1 w2 ao cap hb hb2 ho => by
      have := packs w.heap.size w2 ao 0 cap (srt []) (Nat.le_trans hb.size hb2.size) (srt_len []) (by omega) ho
      simpa [srt, Lib.compact, Lib.compactUpTo] using this
    have GT : good [] = true := by decide
    rw [GT]
    go_enter Try.func27, Try.ntmps27
    go_wp2_with (first
      | (go_at_call 30; refine C.out.mono ?_; rintro e w1 ⟨ao, cap, rfl, ho1, hb1⟩)
      | (go_at_call 31; refine (SS.out w1 ao cap hb1 ho1).mono ?_; rintro e w2 ⟨rfl, ho2, hb2⟩)
      | (go_at_call 32; refine (PP.out w1 w2 ao cap hb1 hb2 ho2).mono ?_; rintro e w3 ⟨ao3, cap3, rfl, hb3⟩))
    go_ret
    exact ⟨rfl, (hb1.trans hb2).trans hb3⟩
  · obtain ⟨y, ys, hy⟩ : ∃ y ys, srt xs = y :: ys := by
      have := srt_len xs
      cases hs : srt xs with
      | nil => rw [hs] at this; simp at this; omega
      | cons y ys => exact ⟨y, ys, rfl⟩
    have hlow := sorted_low hy
    have SS : Hid (∀ (w1 : World) (ao : Option Addr) (cap : Nat), Below w.heap.size w w1 → w1.ownsRow w.heap.size 3 1 (.slice ao n cap) n (cL xs) → Calls Try.prog 31 #[.slice ao n cap] w1 (Sorted w.heap.size ao n cap xs w1)) := fun w1 ao cap hb ho => sorts w.heap.size w1 ao n cap xs hb.size hl (by omega) ho
    have PP : Hid (∀ (w1 w2 : World) (ao : Option Addr) (cap : Nat), Below w.heap.size w w1 → Below w.heap.size w1 w2 → w2.ownsRow w.heap.size 3 1 (.slice ao n cap) n (cL (srt xs)) → Calls Try.prog 32 #[.slice ao n cap] w2 (Packed w.heap.size (Lib.compact (srt xs)).length w2)) := fun w1 w2 ao cap hb hb2 ho => packs w.heap.size w2 ao n cap (srt xs) (Nat.le_trans hb.size hb2.size) (by rw [srt_len, hl]) (by omega) ho
    have RR : Hid (∀ (w2 : World) (ao : Option Addr) (cap : Nat), w2.ownsRow w.heap.size 3 1 (.slice ao n cap) n (cL (srt xs)) → ∃ g, ao = some ⟨g, 0, none⟩ ∧ w2.cell? ⟨g, 0, none⟩ = some (.int .i64 y)) := fun w2 ao cap ho => by
      obtain ⟨g, cp, e, hc, _⟩ := row_cell (k := 0) (x := .int .i64 y) ho (by rw [hy]; rfl)
      cases e
      exact ⟨g, rfl, hc⟩
    have hpos : (0 : Int) < n := by omega
    have hle : (Lib.compact (srt xs)).length ≤ n := by have := Lib.compact_length_le (srt xs); rw [srt_len] at this; omega
    rw [hlow] at G
    have e1 : ((Lib.compact (srt xs)).length = xs.length) = (((Lib.compact (srt xs)).length : Int) = n) := by rw [hl]; exact propext ⟨fun h => by omega, fun h => by omega⟩
    have G' : good xs = (!decide (y < 0) && decide (((Lib.compact (srt xs)).length : Int) = n)) := by rw [G]; congr 1; exact decide_eq_decide.2 (by rw [← e1])
    clear G e1 hlow
    have HY := Lib.hid hy
    clear hy
    generalize good xs = gd at *
    generalize hm : (Lib.compact (srt xs)).length = m at *
    have HM := Lib.hid hm
    clear hm
    by_cases q : y < 0
    · have : gd = false := by rw [G']; simp [q]
      subst this
      clear G' PP
      go_enter Try.func27, Try.ntmps27
      go_wp2_with (first
        | (go_at_call 30; refine C.out.mono ?_; rintro e w1 ⟨ao, cap, rfl, ho1, hb1⟩)
        | (go_at_call 31; refine (SS.out w1 ao cap hb1 ho1).mono ?_; rintro e w2 ⟨rfl, ho2, hb2⟩; obtain ⟨g, rfl, hc0⟩ := RR.out _ _ _ ho2))
      go_ret
      exact ⟨rfl, hb1.trans hb2⟩
    · have G2 : gd = decide ((m : Int) = n) := by rw [G']; simp [q]
      have G3 := Lib.hid G2
      clear G' G2
      go_enter Try.func27, Try.ntmps27
      go_wp2_with (first
        | (go_at_call 30; refine C.out.mono ?_; rintro e w1 ⟨ao, cap, rfl, ho1, hb1⟩)
        | (go_at_call 31; refine (SS.out w1 ao cap hb1 ho1).mono ?_; rintro e w2 ⟨rfl, ho2, hb2⟩; obtain ⟨g, rfl, hc0⟩ := RR.out _ _ _ ho2)
        | (go_at_call 32; refine (PP.out w1 w2 _ cap hb1 hb2 ho2).mono ?_; rintro e w3 ⟨ao3, cap3, rfl, hb3⟩))
      go_ret
      refine ⟨?_, (hb1.trans hb2).trans hb3⟩
      rw [G3.out]
      first | rfl | (congr 1; congr 1; simp [beq_eq_decide])
end Go.Proofs.Ytnocgdhepmgncaa.Ledger
