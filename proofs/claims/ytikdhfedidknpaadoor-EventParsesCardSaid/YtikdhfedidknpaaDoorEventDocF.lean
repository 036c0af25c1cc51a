/- What the document's Figures tell. Conditions: the number is an int64. -/
import Derived.Test.YtikdhfedidknpaaDoorEventDocA
import Derived.Deep.RegionWith
namespace Go.Proofs.YtikdhfedidknpaaDoor.Event
open Go.ChangeShapes Go.WideShapes Go.ChangeAt Go.RowKit
open Mem (box_fresh owns_fresh)
set_option linter.unusedVariables false
set_option linter.unusedSimpArgs false
set_option maxRecDepth 100000

/-- A block of one byte is a text of one sign. -/
theorem conv1 (W : World) (g : Nat) (c : UInt8) (fr : Nat × Nat) (h : W.heap[g]? = some (.cells #[.int .u8 (c.toNat : Int)] 5 (0, 0))) : (convert 54 9 (.slice (some ⟨g, 0, none⟩) 1 1)).run Tryd.prog W = .ok (.string (str [c])) W := by
  have := Mask.Out.string (B := 0) (v := .slice (some ⟨g, 0, none⟩) 1 1) (l := [c]) (w := W) ⟨by simp [Lib.byteCells], .inr ⟨g, 1, _, rfl, Nat.zero_le _, h, Nat.le_refl _, by unfold maxLen; omega, by simp [Lib.byteCells], by simp [Lib.byteCells]⟩⟩
  exact this
theorem conv_new (w : World) (c : UInt8) : (convert 54 9 (.slice (some ⟨w.heap.size, 0, none⟩) 1 1)).run Tryd.prog (w.alloc (.cells #[.int .u8 (c.toNat : Int)] 5)) = .ok (.string (str [c])) (w.alloc (.cells #[.int .u8 (c.toNat : Int)] 5)) :=
  conv1 _ _ c (0, 0) (heap_alloc_new w _)
theorem figs_len {n : Int} (h : I64 n) : (figs n).length ≤ 21 := Lib.itoa_length_le n h.1 h.2
theorem figs_neg1 {n : Int} (h1 : n < 0) (h2 : -10 < n) : figs n = [45, UInt8.ofNat (48 + n.natAbs)] := by
  unfold figs Lib.itoa
  rw [if_pos h1, Lib.decDigits_one (by omega)]
theorem figs_neg {n : Int} (h1 : n < 0) (h2 : ¬ -10 < n) : figs n = figs (-((n.natAbs / 10 : Nat) : Int)) ++ [UInt8.ofNat (48 + n.natAbs % 10)] := by
  unfold figs Lib.itoa
  rw [if_pos h1, if_pos (by omega), dec_last (by omega), Int.natAbs_neg, Int.natAbs_natCast]
  rfl
theorem figs_pos1 {n : Nat} (h : n < 10) : figs (n : Int) = [UInt8.ofNat (48 + n)] := by
  unfold figs Lib.itoa
  rw [if_neg (by omega), Int.toNat_natCast, Lib.decDigits_one h]
theorem figs_pos {n : Nat} (h : ¬ n < 10) : figs (n : Int) = figs ((n / 10 : Nat) : Int) ++ [UInt8.ofNat (48 + n % 10)] := by
  unfold figs Lib.itoa
  rw [if_neg (by omega), if_neg (by omega), Int.toNat_natCast, Int.toNat_natCast, dec_last h]
set_option maxHeartbeats 2000000 in
theorem docFigs (n : Int) (h : I64 n) (w : World) : Calls Tryd.prog 38 #[.int .i64 n] w (IsV (.string (str (figs n))) w) := by
  generalize hm : n.natAbs = m
  induction m using Nat.strongRecOn generalizing n w with
  | _ m ih =>
    by_cases h1 : n < 0
    · obtain ⟨u, hu⟩ : ∃ u : Nat, n.natAbs = u := ⟨_, rfl⟩
      have hr : n.tmod 10 = -((u % 10 : Nat) : Int) := by rw [show n = -(u : Int) by omega, Int.neg_tmod]; rfl
      have hq : n.tdiv 10 = -((u / 10 : Nat) : Int) := by rw [show n = -(u : Int) by omega, Int.neg_tdiv]; rfl
      obtain ⟨r, hr2⟩ : ∃ r : Nat, r = u % 10 := ⟨_, rfl⟩
      have hr9 : r ≤ 9 := by omega
      have hc := conv_new w (UInt8.ofNat (48 + r))
      have hb := byte_nat (48 + r) (by omega)
      have hg := Mem.alloc1 w (.cells #[.int .u8 ((48 + r : Nat) : Int)] 5)
      rw [hb] at hc
      rw [← hr2] at hr
      rw [show ((48 + r : Nat) : Int) = 48 + (r : Int) by omega] at hc hg
      by_cases h2 : -10 < n
      · have hf := figs_neg1 h1 h2
        have hru : n.natAbs = r := by omega
        rw [hru] at hf
        rw [hf]
        have q1 : ∀ w, (Op.stringOp .add ⟨#[45]⟩ (str [UInt8.ofNat (48 + r)])).run Tryd.prog w = .ok (.string (str [45, UInt8.ofNat (48 + r)])) w := fun w => str_add [45] _ (by simp) w
        have hn1 : -9 ≤ n := by omega
        clear hf hb ih hm hu hr2 hq hru h
        generalize str [45, UInt8.ofNat (48 + r)] = S2 at *
        generalize str [UInt8.ofNat (48 + r)] = S at *
        go_enter Tryd.func38, Tryd.ntmps38
        go_wp2
        go_ret
        exact ⟨rfl, hg⟩
      · have hf := figs_neg h1 h2
        rw [hu, ← hr2] at hf
        rw [hf]
        have h10 : n ≤ -10 := by omega
        obtain ⟨p, hp⟩ : ∃ p : Int, p = -((u / 10 : Nat) : Int) := ⟨_, rfl⟩
        rw [← hp] at hq ⊢
        have hpb : I64 p := ⟨by have := h.1; omega, by omega⟩
        have IH := Lib.hid (fun (w : World) => ih (u / 10) (by omega) p hpb w (by omega))
        have fl := figs_len hpb
        have q1 : ∀ w, (Op.stringOp .add (str (figs p)) (str [UInt8.ofNat (48 + r)])).run Tryd.prog w = .ok (.string (str (figs p ++ [UInt8.ofNat (48 + r)]))) w := fun w => str_add _ _ (by simp only [List.length_singleton]; omega) w
        have hp1 : -922337203685477580 ≤ p := by have := h.1; omega
        have hp2 : p ≤ 0 := by omega
        clear hf hb ih hm hr2 fl h hu hp hpb
        generalize str (figs p ++ [UInt8.ofNat (48 + r)]) = S2 at *
        generalize str (figs p) = S1 at *
        generalize str [UInt8.ofNat (48 + r)] = S at *
        go_enter Tryd.func38, Tryd.ntmps38
        go_wp2_with (go_at_call 38; (with_reducible refine (IH.out _).mono ?_); rintro e w2 ⟨rfl, hh⟩; replace hg := hg.trans (hh.mono hg.size); clear hh)
        go_ret
        exact ⟨rfl, hg⟩
    · obtain ⟨u, rfl⟩ : ∃ u : Nat, n = u := ⟨n.toNat, by omega⟩
      by_cases h2 : u < 10
      · have hf := figs_pos1 h2
        have hc := conv_new w (UInt8.ofNat (48 + u))
        have hb := byte_nat (48 + u) (by omega)
        rw [hb] at hc
        have hg := Mem.alloc1 w (.cells #[.int .u8 ((48 + u : Nat) : Int)] 5)
        rw [hf]
        rw [show ((48 + u : Nat) : Int) = 48 + (u : Int) by omega] at hc hg
        clear hf hb ih hm
        generalize str [UInt8.ofNat (48 + u)] = S at *
        have h2' : (u : Int) < 10 := by omega
        go_enter Tryd.func38, Tryd.ntmps38
        go_wp2
        go_ret
        exact ⟨rfl, hg⟩
      · have hf := figs_pos h2
        rw [hf]
        have h2' : ¬ (u : Int) < 10 := by omega
        obtain ⟨r, hr2⟩ : ∃ r : Nat, r = u % 10 := ⟨_, rfl⟩
        obtain ⟨q, hq2⟩ : ∃ q : Nat, q = u / 10 := ⟨_, rfl⟩
        have hr9 : r ≤ 9 := by omega
        rw [← hr2, ← hq2]
        have hqb : I64 (q : Int) := ⟨by omega, by have := h.2; omega⟩
        have IH := Lib.hid (fun (w : World) => ih q (by omega) (q : Int) hqb w (by omega))
        have fl := figs_len hqb
        have q1 : ∀ w, (Op.stringOp .add (str (figs (q : Int))) (str [UInt8.ofNat (48 + r)])).run Tryd.prog w = .ok (.string (str (figs (q : Int) ++ [UInt8.ofNat (48 + r)]))) w := fun w => str_add _ _ (by simp only [List.length_singleton]; omega) w
        have hb := byte_nat (48 + r) (by omega)
        have C1 := Lib.hid (fun (W : World) (g : Nat) (hW : W.heap[g]? = some (.cells #[.int .u8 (48 + (r : Int))] 5 (0, 0))) => conv1 W g (UInt8.ofNat (48 + r)) (0, 0) (by rw [hb, show ((48 + r : Nat) : Int) = 48 + (r : Int) by omega]; exact hW))
        have er : (u : Int) % 10 = (r : Int) := by omega
        have eq : (u : Int) / 10 = (q : Int) := by omega
        have er' : (u : Int).tmod 10 = (r : Int) := by rw [hr2]; rfl
        have eq' : (u : Int).tdiv 10 = (q : Int) := by rw [hq2]; rfl
        have qb : (q : Int) ≤ 922337203685477580 := by have := h.2; omega
        have qw : IntKind.i64.wrap (q : Int) = (q : Int) := by rw [IntKind.wrap_i64]; omega
        have mixed : Tryd.prog.follows Departure.mixedOrders = true := by kernel_rfl
        have e48 : IntKind.i64.wrap (48 + (r : Int)) = 48 + (r : Int) := by rw [IntKind.wrap_i64]; omega
        have e48b : IntKind.u8.wrap (48 + (r : Int)) = 48 + (r : Int) := by rw [IntKind.wrap_u8]; omega
        clear hf hb ih hm fl h hr2 hq2 hqb
        generalize str (figs (q : Int) ++ [UInt8.ofNat (48 + r)]) = S2 at *
        generalize str (figs (q : Int)) = S1 at *
        generalize str [UInt8.ofNat (48 + r)] = S at *
        go_enter Tryd.func38, Tryd.ntmps38
        go_upto_region 8 with fail
        have cv0 := C1.out (w.alloc (.cells #[.int .u8 (48 + (r : Int))] 5)).drew w.heap.size (heap_alloc_new w _)
        have hgA : Below w.heap.size w (w.alloc (.cells #[.int .u8 (48 + (r : Int))] 5)).drew := (Mem.alloc1 w _).trans ⟨rfl, rfl, rfl, Nat.le_refl _, fun _ _ => rfl⟩
        have hgB : Below w.heap.size w w.drew := ⟨rfl, rfl, rfl, Nat.le_refl _, fun _ _ => rfl⟩
        go_region_with (go_at_call 38; (with_reducible refine (IH.out _).mono ?_); rintro e w2 ⟨rfl, hh⟩; have cv1 := C1.out (w2.alloc (.cells #[.int .u8 (48 + (r : Int))] 5)) w2.heap.size (heap_alloc_new w2 _); try (have cv2 := C1.out w2 w.heap.size (Mem.box_fresh (w := (w.alloc (.cells #[.int .u8 (48 + (r : Int))] 5)).drew) (heap_alloc_new w _) hh)))
        all_goals
          clear cv0 cv1 C1
          go_wp2_with fail
          go_ret
          first
            | exact ⟨rfl, (hgB.trans (hh.mono hgB.size)).alloc (hgB.trans (hh.mono hgB.size)).size _⟩
            | exact ⟨rfl, hgA.trans (hh.mono hgA.size)⟩
end Go.Proofs.YtikdhfedidknpaaDoor.Event
