/- What List of package fifo tells, in new memory. Conditions: none. -/
import Derived.Test.YthphileaaoeamaaFifoTake
import Derived.OwnWalk
import Derived.Deep.OwnRows
import Derived.Lib.SliceRun
namespace Go.Proofs.Ythphileaaoeamaa.Fifo
open Go.ChangeShapes Go.WideShapes Go.ChangeAt Go.RowKit Mem
set_option linter.unusedVariables false
set_option linter.unusedSimpArgs false
set_option maxRecDepth 100000

/-- A slice that holds just xs, in blocks from B on. -/
def Lst (B : Nat) (v : Option Addr) (xs : List Int) (w : World) : Prop := ∀ j x, xs[j]? = some x → ∃ k off, v = some ⟨k, off, none⟩ ∧ B ≤ k ∧ k < w.heap.size ∧ w.cell? ⟨k, off + j, none⟩ = some (.int .i64 x)
section
variable {B : Nat} {v : Option Addr} {xs : List Int} {w w' : World}
theorem Lst.fresh (h : Lst B v xs w) (hg : Below w.heap.size w w') : Lst B v xs w' := by
  intro j x hj
  obtain ⟨k, o, e, h1, h2, h3⟩ := h j x hj
  exact ⟨k, o, e, h1, by have := hg.size; omega, (hg.cell h2).trans h3⟩
theorem Lst.same {O : Nat → Prop} (h : Lst B v xs w) (hs : Same O w w') (hO : ∀ k, B ≤ k → O k) : Lst B v xs w' := by
  intro j x hj
  obtain ⟨k, o, e, h1, h2, h3⟩ := h j x hj
  exact ⟨k, o, e, h1, Nat.lt_of_lt_of_le h2 hs.size, (World.cell?_of_block (hs.block k (hO k h1))).trans h3⟩
theorem Lst.lower {B' : Nat} (h : Lst B v xs w) (hB : B' ≤ B) : Lst B' v xs w := by
  intro j x hj
  obtain ⟨k, o, e, h1, h2, h3⟩ := h j x hj
  exact ⟨k, o, e, by omega, h2, h3⟩
theorem Lst.nil (B : Nat) (v : Option Addr) (w : World) : Lst B v [] w := fun j x h => by simp at h
theorem lst_own {e : TypeId} {n g cap : Nat} (h : w.ownsRow B e 1 (.slice (some ⟨g, 0, none⟩) n cap) n (cL xs)) : Lst B (some ⟨g, 0, none⟩) xs w := by
  intro j x hj
  obtain ⟨g', c, e1, hc, _, hb, hs⟩ := row_cell (x := .int .i64 x) (k := j) h (by simp [cL, hj])
  cases e1
  exact ⟨g, 0, rfl, hb, hs, by simpa using hc⟩
theorem lst_row {e : TypeId} {u : Value} {n : Nat} (h : w.ownsRow B e 1 u n (cL xs)) : ∃ ao cap, u = .slice ao n cap ∧ Lst B ao xs w := by
  rcases h.2 with ⟨e1, e2⟩ | ⟨g, cap, cur, e1, h0, hg, h1⟩
  · have hl := h.1
    rw [cL_length, e2] at hl
    obtain rfl : xs = [] := List.eq_nil_of_length_eq_zero hl
    exact ⟨none, 0, by rw [e1, e2], Lst.nil _ _ _⟩
  · subst e1
    exact ⟨_, cap, rfl, lst_own h⟩
end
def Told (xs : List Int) (w : World) (e : Ending) (w' : World) : Prop := ∃ ao cap, e = .returned (.slice ao xs.length cap) ∧ Lst w.heap.size ao xs w' ∧ Below w.heap.size w w'
theorem infoI : (Try.prog.info? 3).map (fun i => (i.zero, i.size, i.bytes)) = some (some (.int .i64 0), 1, 8) := by kernel_rfl
theorem cL_snoc (xs : List Int) (k : Nat) (x : Int) (h : xs[k]? = some x) : cL (xs.take (k + 1)) = cL (xs.take k) ++ [.int .i64 x] := by
  obtain ⟨hk, e⟩ := List.getElem?_eq_some_iff.1 h
  rw [List.take_succ_eq_append_getElem hk, e]; simp [cL]

def ListI (w : World) (xs : List Int) (left : Nat) (t1 t2 : Value) (wr : World) : Prop :=
  ∃ k : Nat, k ≤ xs.length ∧ left = xs.length - k ∧ t2 = .int .i64 k ∧ wr.ownsRow w.heap.size 3 1 t1 k (cL (xs.take k)) ∧ Below w.heap.size w wr
set_option maxHeartbeats 2000000 in
theorem list_nil (w : World) : Calls Try.prog 18 #[.pointer none] w (Told [] w) := by
  go_enter Try.func18, Try.ntmps18
  go_wp2_with (go_at_call 16; refine (len_nil _).mono ?_; rintro e w1 ⟨rfl, rfl⟩)
  go_loopg [3, 7] 0 (fun left s t wr => s = .slice none 0 0 ∧ t = .int .i64 0 ∧ wr = w1)
  case atStart => exact ⟨rfl, rfl, rfl⟩
  case round =>
    obtain ⟨rfl, rfl, rfl⟩ := hrel
    go_wp2_with fail
    go_ret; exact ⟨none, 0, rfl, Lst.nil _ _ _, Below.refl _ _⟩
set_option maxHeartbeats 2000000 in
theorem list (w : World) (b : Nat) (O : Nat → Prop) (xs : List Int) (h : Line w b O xs) :
    Calls Try.prog 18 #[.pointer (some ⟨b, 0, none⟩)] w (Told xs w) := by
  obtain ⟨i0, hi, hz0, hz1, hz2⟩ := info_parts infoI
  obtain ⟨r, f, h, ha⟩ := h
  have L := Lib.hid (len w b O r f _ h)
  have hx := h.cnt
  have hxi : (xs.length : Int) ≤ 64 := by omega
  go_enter Try.func18, Try.ntmps18
  go_wp2_with (go_at_call 16; refine L.out.mono ?_; rintro e w1 ⟨rfl, rfl⟩)
  go_loopg [3, 7] xs.length (fun left s t wr => ListI w1 xs left s t wr)
  case atStart => exact ⟨0, by omega, rfl, rfl, World.ownsRow_nil _ _ _ _, Below.refl _ _⟩
  case round =>
    obtain ⟨k, hk, rfl, rfl, hown, hb⟩ := hrel
    by_cases hlt : k < xs.length
    · have h3 : (k : Int) < xs.length := by omega
      obtain ⟨x, hx1⟩ : ∃ x, xs[k]? = some x := ⟨_, List.getElem?_eq_getElem hlt⟩
      have h' := h.fresh hb
      have hc := h'.cell (k := (f + k) % 64) (x := x) (by rw [ha k hlt]; exact hx1)
      have HC0 := Lib.hid (h.cell (k := (f + k) % 64) (x := x) (by rw [ha k hlt]; exact hx1))
      have hbl := h.lt
      have P := Lib.hid (place wr.drew b O r f _ (h'.fresh (Below.refl _ wr).drew) k k rfl (by omega))
      have hj : (f + k) % 64 < 64 := by omega
      have HF := Lib.hid (fun (v' : Value) (w2 : World) (hh : w2.ownsRow w1.heap.size 3 1 v' (k + 1) (cL (xs.take k) ++ [.int .i64 x])) (g : Below w1.heap.size w1 w2) => (show ListI w1 xs (xs.length - (k + 1)) v' (.int .i64 ((k : Int) + 1)) w2 from ⟨k + 1, by omega, rfl, by go_num, by rw [cL_snoc xs k x hx1]; exact hh, g⟩))
      have hl : (cL (xs.take k)).length = k := by rw [cL_length, List.length_take]; omega
      generalize cL (xs.take k) = U at *
      generalize (f + k) % 64 = j at *
      have hj0 : (0 : Int) ≤ (j : Int) := by omega
      have hj1 : (j : Int) < 64 := by omega
      have hj2 : (j : Int) ≤ 64 := by omega
      have hzr := hb.size
      have k1 : (0 : Int) ≤ (k : Int) := by omega
      have k2 : (k : Int) ≤ 64 := by omega
      clear L ha h h' hx1
      go_wp2_with fail
      go_region_held3 (fun w' => w'.cell? ⟨b, j, none⟩ = some (.int .i64 x)) (first | exact hc | exact z0 | go_keep)
        (first
          | (go_at_call 24; refine P.out.mono ?_; rintro e w3 ⟨rfl, rfl⟩)
          | (refine step_append_lies _ (by rfl) _ _ _ (by rfl) w1.heap.size 3 i0 _ 1 8 Try.underlying26 hi hz0 hz1 hz2 rfl (by decide) _ _ _ (by rfl) (hown.drew.alloc _) ⟨wr.heap.size, 0, none⟩ 1 1 [.int .i64 x] (by rfl) (by rfl) (World.news_of_block (cs := #[.int .i64 x]) (t := 3) (fr := (0, 0)) (heap_alloc_new wr.drew _)) (by simp [Value.oneCell']) (by decide) (by simp only [maxLen]; omega) (by omega) (by show w1.heap.size ≤ (wr.alloc _).heap.size; rw [World.size_alloc]; exact Nat.le_succ_of_le hzr) (wr.heap.size + 1) (show (wr.alloc _).heap.size = _ from World.size_alloc _ _) ?_; intro g4 c4 w4 hown4 hgrow4 hat4 hlt4; have hb4 := (hb.alloc hzr _).drew.grown hgrow4 (by show w1.heap.size ≤ (wr.alloc _).heap.size; rw [World.size_alloc]; exact Nat.le_succ_of_le hzr) (fun j hj => (hown.lt j hj).1); have z0 := (hb4.cell (p := ⟨b, j, none⟩) hbl).trans HC0.out))
      go_wp2_with fail
      go_roundg (xs.length - (k + 1))
      case measure => omega
      case rel => exact HF.out _ _ hown4 hb4
    · have h3 : ¬ (k : Int) < xs.length := by omega
      obtain rfl : k = xs.length := by omega
      rw [List.take_length] at hown
      obtain ⟨ao, cp, rfl, hl⟩ := lst_row hown
      have HL := Lib.hid hl
      clear hown hl h ha L
      go_wp2_with fail
      go_ret
      exact ⟨ao, cp, rfl, HL.out, hb⟩
end Go.Proofs.Ythphileaaoeamaa.Fifo
