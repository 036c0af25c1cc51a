/- The walk of GtreeDeep. Conditions: the argument is a number of 8 bits. -/
import Derived.Test.YtcfdpbidhanldaaGtDeepP
namespace Go.Proofs.Ytcfdpbidhanldaa.Gt
open Go.ChangeShapes Go.WideShapes Go.ChangeAt Go.RowKit Hp
set_option linter.unusedVariables false
set_option linter.unusedSimpArgs false

/-- A tree, one box of a handle beside it. -/
structure Db (w0 w : World) (tb b c : Nat) (st : St) (x y : Int) : Prop where
  tree : Tre w tb b (· < w0.heap.size) st
  box : w.heap[c]? = some (.cells #[.int .i64 x, .int .i64 y] 34 (0, 0))
  sub : w0.heap.size ≤ c
  below : Below w0.heap.size w0 w
theorem Db.fresh {w0 w w' : World} {tb b c : Nat} {st : St} {x y : Int} (h : Db w0 w tb b c st x y) (hg : Below w.heap.size w w') : Db w0 w' tb b c st x y :=
  ⟨h.tree.fresh hg, heap_fresh h.box hg, h.sub, h.below.trans (hg.mono h.below.size)⟩
theorem Db.lt {w0 w : World} {tb b c : Nat} {st : St} {x y : Int} (h : Db w0 w tb b c st x y) : ∀ k, With (· < w0.heap.size) c k → k < w.heap.size := by
  rintro k (hk | rfl)
  · exact Nat.lt_of_lt_of_le hk h.below.size
  · exact lt_of h.box
theorem Db.did {w0 w w' : World} {tb b c : Nat} {st st' : St} {x y : Int} (h : Db w0 w tb b c st x y) (ht : Tre w' tb b (With (· < w0.heap.size) c) st') (hs : Same (With (· < w0.heap.size) c) w w') : Db w0 w' tb b c st' x y :=
  ⟨ht.other fun k hk => .inl (.inl hk), (hs.block c (.inr rfl)).trans h.box, h.sub, h.below.trans (hs.mono fun k hk => .inl hk).below⟩
theorem Db.call {w0 w : World} {tb b c : Nat} {st : St} {x y : Int} (h : Db w0 w tb b c st x y) : Tre w tb b (With (· < w0.heap.size) c) st := h.tree.guard h.box
theorem box_set {w : World} {c : Nat} {x y u v : Value} {t : TypeId} (h : w.heap[c]? = some (.cells #[x, y] t (0, 0))) : ((w.setCell ⟨c, 0, none⟩ u).setCell ⟨c, 1, none⟩ v).heap[c]? = some (.cells #[u, v] t (0, 0)) := by
  simp [World.setCell, Array.getElem?_modify, h]
theorem Db.set {w0 w : World} {tb b c : Nat} {st : St} {x y : Int} (h : Db w0 w tb b c st x y) (u v : Int) : Db w0 ((w.setCell ⟨c, 0, none⟩ (.int .i64 u)).setCell ⟨c, 1, none⟩ (.int .i64 v)) tb b c st u v := by
  have hb := ((But.of (a := c) (Below.refl _ w)).setCell (p := ⟨c, 0, none⟩) (.inl rfl) (.int .i64 u)).setCell (p := ⟨c, 1, none⟩) (.inl rfl) (.int .i64 v)
  exact ⟨(h.call.but (.inr rfl) hb).other fun k hk => .inl (.inl hk), box_set h.box, h.sub, hb.below h.below h.sub⟩

def ChainI (w0 : World) (tb b c : Nat) (left : Nat) (t6 : Value) (wr : World) : Prop := ∃ k : Nat, left + k = 8 ∧ t6 = .int .i64 k ∧ Db w0 wr tb b c (D k) k 0
def SideI (w0 : World) (tb b c : Nat) (left : Nat) (t12 : Value) (wr : World) : Prop := ∃ k : Nat, left + k = 31 ∧ 8 ≤ k ∧ t12 = .int .i64 ((k : Int) + 1) ∧ Db w0 wr tb b c (D k) k 0

set_option maxRecDepth 100000 in
set_option maxHeartbeats 4000000 in
theorem deepLaw (n : Int) (w : World) (n0 : 0 ≤ n) (n1 : n ≤ 255) : Calls Try.prog 7 #[.int .u8 n] w (Yes w) := by
  go_enter Try.func7, Try.ntmps7
  go_wp2_with (first
    | (go_at_call 9; refine (awake _).mono ?_; rintro e w1 ⟨rfl, hg⟩)
    | (go_at_call 10; refine (new_tree w1).mono ?_; rintro e w2 ⟨tb, b, rfl, ht, hg2⟩))
  have hb0 : Db w1 (w2.alloc (.cells #[.int .i64 0, .int .i64 0] 34)) tb b w2.heap.size (D 0) (0 : Nat) 0 := ⟨ht.fresh (alloc1 _ _), heap_alloc_new _ _, hg2.size, hg2.alloc hg2.size _⟩
  clear ht hg2
  generalize w2.heap.size = c at *
  go_loopg [6] 8 (fun left t6 wr => ChainI w1 tb b c left t6 wr)
  case atStart => exact ⟨0, by omega, rfl, hb0⟩
  case round =>
    obtain ⟨k, hk, rfl, hb⟩ := hrel
    obtain ⟨b0, b1, bz⟩ := box2 hb.box
    by_cases hlt : k < 8
    · have h3 : (k : Int) < 8 := by omega
      have C := Lib.hid (create_step hlt hb.call hb.lt)
      have hE : (((k + 1 : Nat) : Int)) = (k : Int) + 1 := by omega
      rw [hE] at C
      go_wp2_with fail
      go_at_call 13; refine C.out.mono ?_; rintro e w3 ⟨rfl, ht3, hs3⟩
      have hb3 := hb.did ht3 hs3
      have hb4 := hb3.fresh (alloc1 w3 (.cells #[.int .i64 ((k : Int) + 1), .int .i64 0] 34))
      obtain ⟨d0, d1, dz⟩ := box2 hb4.box
      have F := Lib.hid (hb4.set ((k : Int) + 1) 0)
      clear ht3 hs3 hb3 hb4 hb C b0 b1 bz hb0
      go_wp2_with fail
      go_roundg (gk - 1)
      case measure => omega
      case rel => exact ⟨k + 1, by omega, by go_num, by rw [hE]; exact F.out⟩
    · obtain rfl : k = 8 := by omega
      have hb' : Db w1 wr tb b c (D 8) 8 0 := hb
      have C := Lib.hid (create_over hb.tree)
      clear hb0 b0 b1 bz hb
      obtain ⟨b0, b1, bz⟩ := box2 hb'.box
      go_wp2_with fail
      go_at_call 13; refine C.out.mono ?_; rintro e w3 ⟨rfl, hg3⟩
      have hb3 := hb'.fresh hg3
      have hb4 := hb3.fresh (alloc1 w3 (.cells #[.int .i64 0, .int .i64 0] 34))
      obtain ⟨d0, d1, dz⟩ := box2 hb4.box
      have hc : Db w1 ((w3.alloc (.cells #[.int .i64 0, .int .i64 0] 34)).alloc (.cells #[.int .i64 8, .int .i64 0] 34)) tb b (w3.heap.size + 1) (D 8) ((8 : Nat) : Int) 0 :=
        ⟨hb4.tree.fresh (alloc1 _ _), by rw [show w3.heap.size + 1 = (w3.alloc (.cells #[.int .i64 0, .int .i64 0] 34)).heap.size by simp, heap_alloc_new]; rfl, by have := hb3.below.size; omega, (hb4.fresh (alloc1 _ _)).below⟩
      clear hb3 hb4 hb' hg3 C b0 b1 bz
      go_wp2_with fail
      generalize w3.heap.size + 1 = c' at *
      go_loopg [12] 23 (fun left t12 wr => SideI w1 tb b c' left t12 wr)
      case atStart => exact ⟨8, by omega, by omega, rfl, hc⟩
      case round =>
        clear d0 d1 dz hc
        obtain ⟨k, hk, hk8, rfl, hb⟩ := hrel
        obtain ⟨b0, b1, bz⟩ := box2 hb.box
        by_cases hlt : k < 31
        · have h3 : (k : Int) + 1 < 32 := by omega
          have C := Lib.hid (create_side hk8 hlt hb.call hb.lt)
          have hE : (((k + 1 : Nat) : Int)) = (k : Int) + 1 := by omega
          rw [hE] at C
          go_wp2_with fail
          go_at_call 13; refine C.out.mono ?_; rintro e w5 ⟨rfl, ht3, hs3⟩
          have hb3 := hb.did ht3 hs3
          have hb4 := hb3.fresh (alloc1 w5 (.cells #[.int .i64 ((k : Int) + 1), .int .i64 0] 34))
          obtain ⟨d0, d1, dz⟩ := box2 hb4.box
          have F := Lib.hid (hb4.set ((k : Int) + 1) 0)
          clear ht3 hs3 hb3 hb4 hb C b0 b1 bz
          go_wp2_with fail
          go_roundg (gk - 1)
          case measure => omega
          case rel => exact ⟨k + 1, by omega, by omega, by congr 1, by rw [hE]; exact F.out⟩
        · obtain rfl : k = 31 := by omega
          have hb' : Db w1 wr tb b c' (D 31) 31 0 := hb
          clear b0 b1 bz hb
          have C := Lib.hid (create_more hb'.call hb'.lt)
          go_wp2_with fail
          go_at_call 13; refine C.out.mono ?_; rintro e w5 ⟨rfl, ht3, hs3⟩
          have hb5 := (hb'.did ht3 hs3).fresh (alloc1 w5 (.cells #[.int .i64 0, .int .i64 0] 34))
          clear ht3 hs3 hb' C
          obtain ⟨d0, d1, dz⟩ := box2 hb5.box
          have C := Lib.hid (destroy_last hb5.call hb5.lt)
          go_wp2_with fail
          go_at_call 15; refine C.out.mono ?_; rintro e w6 ⟨rfl, ht3, hs3⟩
          have hb6 := hb5.did ht3 hs3
          clear ht3 hs3 hb5 C d0 d1 dz
          rcases (by omega : n % 2 = 0 ∨ n % 2 = 1) with hn | hn
          · have C := Lib.hid (create_back hb6.call hb6.lt)
            go_wp2_with fail
            go_at_call 13; refine C.out.mono ?_; rintro e w7 ⟨rfl, ht3, hs3⟩
            have hb7 := (hb6.did ht3 hs3).fresh (alloc1 w7 (.cells #[.int .i64 31, .int .i64 1] 34))
            clear ht3 hs3 hb6 C
            obtain ⟨d0, d1, dz⟩ := box2 hb7.box
            have e0 := heap_alloc_new w7 (.cells #[.int .i64 31, .int .i64 1] 34)
            have C := Lib.hid (destroy_none (w7.alloc (.cells #[.int .i64 31, .int .i64 1] 34)) tb b (· < w1.heap.size) E2 31 0 hb7.tree E2_inv.l1 E2_gone)
            go_wp2_with fail
            go_at_call 15; refine C.out.mono ?_; rintro e w8 ⟨rfl, hg8⟩
            have hb8 := hb7.fresh hg8
            replace e0 := heap_fresh e0 hg8
            clear hb7 hg8 C d0 d1 dz
            obtain ⟨d0, d1, dz⟩ := box2 hb8.box
            obtain ⟨f0, f1, fz⟩ := box2 e0
            have C := Lib.hid (destroy_root w8 tb b (· < w1.heap.size) E2 hb8.tree E2_inv.l1 E2_root)
            go_wp2_with fail
            go_at_call 15; refine C.out.mono ?_; rintro e w9 ⟨rfl, hg9⟩
            have hb9 := hb8.below.trans (hg9.mono hb8.below.size)
            go_wp2_with fail
            go_ret
            exact ⟨rfl, hg.trans (hb9.mono hg.size)⟩
          · have C := Lib.hid (create_below hb6.tree)
            go_wp2_with fail
            go_at_call 13; refine C.out.mono ?_; rintro e w7 ⟨rfl, hg7⟩
            have hb7 := (hb6.fresh hg7).fresh (alloc1 w7 (.cells #[.int .i64 0, .int .i64 0] 34))
            clear hg7 hb6 C
            obtain ⟨d0, d1, dz⟩ := box2 hb7.box
            have C := Lib.hid (destroy_none (w7.alloc (.cells #[.int .i64 0, .int .i64 0] 34)) tb b (· < w1.heap.size) E1 31 0 hb7.tree E1_inv.l1 E1_gone)
            go_wp2_with fail
            go_at_call 15; refine C.out.mono ?_; rintro e w8 ⟨rfl, hg8⟩
            have hb8 := hb7.fresh hg8
            clear hb7 hg8 C d0 d1 dz
            have C := Lib.hid (destroy_root w8 tb b (· < w1.heap.size) E1 hb8.tree E1_inv.l1 E1_root)
            go_wp2_with fail
            go_at_call 15; refine C.out.mono ?_; rintro e w9 ⟨rfl, hg9⟩
            have hb9 := hb8.below.trans (hg9.mono hb8.below.size)
            go_wp2_with fail
            go_ret
            exact ⟨rfl, hg.trans (hb9.mono hg.size)⟩
end Go.Proofs.Ytcfdpbidhanldaa.Gt
