/- What mask.Parse tells of any text: just what the plain reader does. Conditions: none. -/
import Derived.Test.YtikdhfedidknpaaDoorMaskRead
import Derived.Laws.RangeString
import Derived.Laws.RangeAny
import Derived.Lib.OthersKept
import Derived.LoopTactic
namespace Go.Proofs.YtikdhfedidknpaaDoor.Mask
open Go.ChangeShapes Go.WideShapes Go.ChangeAt Go.RowKit
set_option linter.unusedVariables false
set_option linter.unusedSimpArgs false
set_option maxRecDepth 100000

def IsParse (l : List UInt8) (w : World) (e : Ending) (w' : World) : Prop := e = .returned (.tuple #[.int .u64 (parse l).1, .int .i64 (parse l).2]) ∧ Below w.heap.size w w'

/-- How far the reader is: the signs ahead of pos were read as t. -/
def ParseI (l : List UInt8) (s : ByteArray) (w : World) (wr : World) : Prop :=
  ∃ (pos : Nat) (t : R), pos ≤ s.size ∧ wr.heap[w.heap.size + 1]? = some (.stringIter s pos) ∧ Rd wr w.heap.size t ∧ t.Ok ∧ Below w.heap.size w wr ∧ rd t (l.drop pos) = rd R.nil l ∧ wr.heap.size = w.heap.size + 2

theorem Rd.iterAt {w : World} {b k : Nat} {t : R} {s : ByteArray} {p : Nat} (h : Rd w b t) (hb : b ≠ k) : Rd (w.iterAt k s p) b t := by
  obtain ⟨x, hc, hx⟩ := h
  refine ⟨x, ?_, hx⟩
  unfold Rc at *
  rw [Lib.iterAt_other _ _ _ _ _ hb]
  exact hc

theorem str_toList (s : ByteArray) : s.toList = s.data.toList := ByteArray.toList_eq s

theorem two_heap (w : World) (o : Obj) (s : ByteArray) (p : Nat) : ((w.alloc o).iter s p).heap[w.heap.size]? = some o ∧ ((w.alloc o).iter s p).heap[w.heap.size + 1]? = some (.stringIter s p) ∧ ((w.alloc o).iter s p).heap.size = w.heap.size + 2 ∧ Below w.heap.size w ((w.alloc o).iter s p) := by
  have e : ((w.alloc o).iter s p).heap = (w.heap.push o).push (.stringIter s p) := rfl
  refine ⟨?_, ?_, ?_, ((Below.refl _ w).alloc (Nat.le_refl _) _).alloc (by show w.heap.size ≤ (w.heap.push o).size; rw [Array.size_push]; omega) _⟩
  · rw [e, Array.getElem?_push, if_neg (by rw [Array.size_push]; omega), Array.getElem?_push, if_pos rfl]
  · rw [e, Array.getElem?_push, if_pos (by rw [Array.size_push])]
  · rw [e, Array.size_push, Array.size_push]

theorem parse_fails {l : List UInt8} (h0 : l ≠ []) (h : rd R.nil l = none) : parse l = (0, 11) := by simp [parse, h0, h, shut]

theorem step_of (s : ByteArray) (l : List UInt8) (hl : l = s.data.toList) (pos : Nat) (h : pos < s.size) (t : R) (hrd : rd t (l.drop pos) = rd R.nil l) :
    ∃ r wd : Nat, Utf8.decode s pos = (r, wd) ∧ r < 2147483648 ∧ 1 ≤ wd ∧ ((r < 128 ∧ wd = 1 ∧ rd R.nil l = (t.take r).bind fun t' => rd t' (l.drop (pos + 1))) ∨ (128 ≤ r ∧ rd R.nil l = none)) := by
  have hc : l.drop pos = (s[pos]'h) :: l.drop (pos + 1) := by
    subst hl
    exact List.drop_eq_getElem_cons (i := pos) (l := s.data.toList) (by simpa using h)
  rw [hc] at hrd
  by_cases ha : (s[pos]'h).toNat < 128
  · refine ⟨_, _, decode_ascii s pos h ha, by omega, Nat.le_refl _, .inl ⟨ha, rfl, hrd.symm⟩⟩
  · obtain ⟨h1, h2⟩ := decode_high s pos h (by omega)
    refine ⟨(Utf8.decode s pos).1, (Utf8.decode s pos).2, rfl, by have := decode_le s pos; omega, h2, .inr ⟨h1, ?_⟩⟩
    rw [← hrd]
    simp only [rd]
    rw [take_none (by omega) (by omega) (by omega)]
    rfl

theorem Parse (s : ByteArray) (l : List UInt8) (hl : l = s.data.toList) (w : World) : Calls Tryd.prog 62 #[.string s] w (IsParse l w) := by
  by_cases h0 : s.toList.isEmpty = true
  · have e : l = [] := by
      subst hl
      rw [str_toList] at h0
      simpa using h0
    subst e
    clear hl
    go_enter Tryd.func62, Tryd.ntmps62
    go_wp2
    go_ret2
    exact ⟨rfl, Below.refl _ _⟩
  have h0' : s.toList.isEmpty = false := by simpa using h0
  have hl0 : l ≠ [] := by
    subst hl
    intro h
    apply h0
    rw [str_toList, h]
    rfl
  have hsz : s.size = l.length := by subst hl; rfl
  have hl0' := Lib.hid hl0
  have hl' := Lib.hid hl
  clear hl hl0 h0
  have start : ParseI l s w ((w.alloc (.cells #[.int .u64 0, .bool false, .bool false, .int .i64 0, .int .i64 0, .int .i64 0] 102)).iter s 0) := by
    obtain ⟨q1, q2, q3, q4⟩ := two_heap w (.cells #[.int .u64 0, .bool false, .bool false, .int .i64 0, .int .i64 0, .int .i64 0] 102) s 0
    exact ⟨0, R.nil, Nat.zero_le _, q2, ⟨0, q1, fun h => by cases h⟩, R.nil_ok, q4, rfl, q3⟩
  have start' := Lib.hid start
  clear start
  go_enter Tryd.func62, Tryd.ntmps62
  go_wp2
  go_loopw [6] (fun _ wr => ParseI l s w wr) (fun _ wr => s.size - wr.iterPos (w.heap.size + 1))
  case atStart => exact start'.out
  case round =>
    obtain ⟨pos, t, hp, hit, hR, hok, hb, hrd, hws⟩ := hrel
    have hne : w.heap.size ≠ w.heap.size + 1 := by omega
    by_cases hlt : pos < s.size
    · have hnx : ∀ ty, (Instr.next (.pointer (some ⟨w.heap.size + 1, 0, none⟩)) true ty).run Tryd.prog wr = _ := fun ty => Lib.run_next_any_at wr (w.heap.size + 1) s pos ty hit hlt
      obtain ⟨r, wd, hdec, hrl, hwd, hstep⟩ := step_of s l hl'.out pos hlt t hrd
      rw [hdec] at hnx
      simp only at hnx
      have hR1 : Rd (wr.iterAt (w.heap.size + 1) s (pos + wd)) w.heap.size t := hR.iterAt hne
      have hit1 : (wr.iterAt (w.heap.size + 1) s (pos + wd)).heap[w.heap.size + 1]? = some (.stringIter s (pos + wd)) := Lib.iterAt_heap _ _ _ _ _ hit
      have hb1 : Below w.heap.size w (wr.iterAt (w.heap.size + 1) s (pos + wd)) := Lib.below_iterAt hb (by omega) _ _
      have hz1 : (wr.iterAt (w.heap.size + 1) s (pos + wd)).heap.size = w.heap.size + 2 := by rw [Lib.iterAt_size, hws]
      generalize wr.iterAt (w.heap.size + 1) s (pos + wd) = W1 at *
      have C := Lib.hid (take t r w.heap.size W1 hR1 hok hrl)
      have H := Lib.hid (And.intro hrd (And.intro hstep (And.intro hit (And.intro hit1 (And.intro hb1 hz1)))))
      clear hR hR1 hrd hstep hit hit1 hb hb1 hz1 hdec hws
      cases htk : t.take r with
      | none =>
        rw [htk] at C
        go_wp2_with (go_at_call 77; refine C.out.mono ?_; rintro e W2 ⟨rfl, hO, hR2⟩)
        go_ret2
        obtain ⟨_, hs, _, _, hb1, _⟩ := H.out
        have hn : rd R.nil l = none := by
          rcases hs with ⟨_, _, h⟩ | ⟨_, h⟩
          · rw [h, htk]; rfl
          · exact h
        refine ⟨?_, hb1.trans (hO.below (Nat.le_refl _))⟩
        rw [parse_fails hl0'.out hn]
        rfl
      | some t' =>
        rw [htk] at C
        go_wp2_with (go_at_call 77; refine C.out.mono ?_; rintro e W2 ⟨rfl, hO, hR2⟩)
        obtain ⟨_, hs, hit, hit1, hb1, hz1⟩ := H.out
        have hs' : wd = 1 ∧ rd R.nil l = rd t' (l.drop (pos + 1)) := by
          rcases hs with ⟨_, h2, h⟩ | ⟨h, _⟩
          · rw [htk] at h; exact ⟨h2, h⟩
          · rw [take_none (by omega) (by omega) (by omega)] at htk; cases htk
        obtain ⟨rfl, hrd'⟩ := hs'
        have hit2 : W2.heap[w.heap.size + 1]? = some (.stringIter s (pos + 1)) := by rw [hO.block _ hne.symm]; exact hit1
        go_roundw
        case rel => exact ⟨pos + 1, t', by omega, hit2, hR2 t' rfl, R.take_ok hok htk, hb1.trans (hO.below (Nat.le_refl _)), hrd'.symm, by rw [hO.size, hz1]⟩
        case measure =>
          simp [World.iterPos, hit, hit2]
          omega
    · have hnx : ∀ ty, (Instr.next (.pointer (some ⟨w.heap.size + 1, 0, none⟩)) true ty).run Tryd.prog wr = _ := fun ty => Lib.run_next_end_at wr (w.heap.size + 1) s pos ty hit hlt
      have hend : rd R.nil l = some t := by
        rw [← hrd, List.drop_eq_nil_of_le (by rw [← hsz]; omega)]
        rfl
      have C := Lib.hid (end_ t w.heap.size wr hR hok)
      have hb' := Lib.hid hb
      have hp' := Lib.hid (show parse l = shut (some t) by unfold parse; rw [if_neg hl0'.out, hend])
      clear hR hok hb hrd hws hit hend
      cases hte : t.end with
      | none =>
        rw [hte] at C
        go_wp2_with (go_at_call 78; refine C.out.mono ?_; rintro e W2 ⟨rfl, hO, hR2⟩)
        go_ret2
        refine ⟨?_, hb'.out.trans (hO.below (Nat.le_refl _))⟩
        rw [hp'.out]
        simp [shut, hte]
      | some t' =>
        rw [hte] at C
        have fin : ∀ W2 : World, One w.heap.size wr W2 → Below w.heap.size w W2 := fun W2 hO => hb'.out.trans (hO.below (Nat.le_refl _))
        have ht' : parse l = if t'.wrong then (0, 1) else (t'.set, 0) := by rw [hp'.out]; simp [shut, hte]
        have ht'' := Lib.hid ht'
        have fin' := Lib.hid fin
        clear ht' fin hte
        cases hw : t'.wrong
        · go_wp2_with (go_at_call 78; refine C.out.mono ?_; rintro e W2 ⟨rfl, hO, hR2⟩; obtain ⟨x, hc, _⟩ := hR2 t' rfl; obtain ⟨c0, c1, _, _, _, _, _⟩ := hc.cells; rw [hw] at c1; clear hR2 hc)
          go_ret2
          refine ⟨?_, fin'.out _ hO⟩
          rw [ht''.out, hw]
          rfl
        · go_wp2_with (go_at_call 78; refine C.out.mono ?_; rintro e W2 ⟨rfl, hO, hR2⟩; obtain ⟨x, hc, _⟩ := hR2 t' rfl; obtain ⟨c0, c1, _, _, _, _, _⟩ := hc.cells; rw [hw] at c1; clear hR2 hc)
          go_ret2
          refine ⟨?_, fin'.out _ hO⟩
          rw [ht''.out, hw]
          rfl
end Go.Proofs.YtikdhfedidknpaaDoor.Mask
