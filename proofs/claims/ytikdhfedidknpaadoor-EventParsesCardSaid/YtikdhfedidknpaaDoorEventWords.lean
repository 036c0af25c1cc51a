/- What event.Words tells. Conditions: the listed variables hold what they are listed with. -/
import Derived.Test.YtikdhfedidknpaaDoorEventDocL
import Derived.Deep.MidRow
namespace Go.Proofs.YtikdhfedidknpaaDoor.Event
open Go.ChangeShapes Go.WideShapes Go.ChangeAt Go.RowKit
open Mem (box_fresh owns_fresh)
set_option linter.unusedVariables false
set_option linter.unusedSimpArgs false
set_option maxRecDepth 100000

theorem infoStr : (Tryd.prog.info? 9).map (fun i => (i.zero, i.size, i.bytes)) = some (some (.string ⟨#[]⟩), 1, 16) := by kernel_rfl
/-- The words, in a block. -/
def Wd (g : Nat) (w : World) : Prop := g < w.heap.size ∧ ∀ j, j < 15 → w.cell? ⟨g, j, none⟩ = some (.string (str (wordL j)))
theorem Wd.fresh {g : Nat} {w w' : World} (h : Wd g w) (hb : Below w.heap.size w w') : Wd g w' := ⟨Nat.lt_of_lt_of_le h.1 hb.size, fun j hj => (hb.cell (p := ⟨g, j, none⟩) h.1).trans (h.2 j hj)⟩
theorem Wds.wd {g : Nat} {w : World} (h : Wds g w) : Wd g w := ⟨(Array.getElem?_eq_some_iff.1 h).1, fun j hj => h.at j hj⟩
def IsWord (w : World) (e : Ending) (w' : World) : Prop := ∃ g cap, e = .returned (.slice (some ⟨g, 0, none⟩) 15 cap) ∧ Wd g w' ∧ Below w.heap.size w w'
theorem wordsV_len : wordsV.length = 15 := by unfold wordsV; rw [List.length_map]; rfl
theorem wordsV_at (j : Nat) (hj : j < 15) : wordsV[j]? = some (.string (str (wordL j))) := by
  unfold wordsV
  rw [List.getElem?_map]
  have hl : j < words.length := hj
  rw [List.getElem?_eq_getElem hl]
  unfold wordL
  rw [List.getD_eq_getElem?_getD, List.getElem?_eq_getElem hl]
  rfl
def WrI (w : World) (v t : Value) (wr : World) : Prop := ∃ i : Nat, i ≤ 15 ∧ t = .int .i64 i ∧ (∃ g cap, v = .slice (some ⟨g, 0, none⟩) i cap) ∧ wr.ownsRow w.heap.size 9 1 v i (wordsV.take i) ∧ Below w.heap.size w wr
theorem words_ (w : World) (hT : Tab w) : Calls Tryd.prog 15 #[] w (IsWord w) := by
  obtain ⟨i0, hi, hz0, hz1, hz2⟩ := Mem.info_parts infoStr
  have T0 := Lib.hid (fun (W : World) (h : Below w.heap.size w W) => tabR (hT.fresh h))
  have IX := Lib.hid idx
  clear hT
  have hl : (Tryd.prog.info? 58).map (·.size) = some rowsK.length := by kernel_rfl
  generalize rowsK = R at T0 IX hl
  have h8 : i0.bytes * 15 ≤ 281474976710656 := by rw [hz2]; omega
  go_enter Tryd.func15, Tryd.ntmps15
  go_upto_region 2 with (at_make; refine wpList_make_own _ rfl _ _ 38 rfl w.heap.size 9 i0 (.string ⟨#[]⟩) 1 Tryd.underlying38 hi hz0 hz1 .i64 .i64 _ 15 rfl rfl rfl h8 (by unfold maxLen; omega) (Nat.le_refl _) ?_; intro w1 hrow hgrow)
  have hB1 : Below w.heap.size w w1 := (Below.refl _ w).grown hgrow (Nat.le_refl _) (fun k e => by cases e)
  have st : Hid (WrI w (.slice (some ⟨w.heap.size, 0, none⟩) 0 15) (.int .i64 0) w1) := Lib.hid ⟨0, by omega, rfl, ⟨_, _, rfl⟩, hrow, hB1⟩
  have hR := T0.out w1 hB1
  clear hrow hgrow hB1 T0 h8
  go_wp2_with (refine wpList_load_mid rfl 58 _ rfl 0 0 rfl R _ hR Tryd.underlying58 rfl hl ?_)
  clear hR hl
  generalize R.toArray = C at *
  go_loopw [1, 6] (fun v t wr => WrI w v t wr) (fun _ t _ => 15 - (intOf t).toNat)
  case atStart => exact st.out
  case round =>
    clear st
    obtain ⟨k, hk, rfl, ⟨g, cap, rfl⟩, hO, hg⟩ := hrel
    by_cases hlt : k < 15
    · have hix := IX.out k hlt
      have h1 : (k : Int) < 15 := by omega
      have hO1 := hO.alloc (.cells #[.string (str (wordL k)), .string (str (formL k))] 57)
      have hg1 := hg.alloc hg.size (.cells #[.string (str (wordL k)), .string (str (formL k))] 57)
      have NX : Hid (∀ v' W, (∃ g cap, v' = .slice (some ⟨g, 0, none⟩) (k + 1) cap) → W.ownsRow w.heap.size 9 1 v' (k + 1) (wordsV.take k ++ [.string (str (wordL k))]) → Below w.heap.size w W → WrI w v' (.int .i64 ((k : Int) + 1)) W) := Lib.hid (fun v' W h0 h1 h2 => ⟨k + 1, by omega, by go_num, h0, by
        rw [List.take_add_one, wordsV_at k hlt]
        exact h1, h2⟩)
      clear IX hO hg
      generalize str (wordL k) = b at *
      generalize str (formL k) = b2 at *
      have hBA := hg1.size
      have hc0 : (wr.alloc (.cells #[.string b, .string b2] 57)).cell? ⟨wr.heap.size, 0, none⟩ = some (.string b) := by
        rw [cell_of_row _ wr.heap.size 0 _ _ _ (heap_alloc_new wr _)]; rfl
      generalize hW0 : wr.alloc (.cells #[.string b, .string b2] 57) = W0 at hO1 hg1 hBA hc0
      go_upto_region 5 with fail
      clear hW0
      go_wp2_with (at_builtin; refine wpList_append_own _ rfl _ _ 38 rfl w.heap.size 9 i0 (.string ⟨#[]⟩) 1 16 Tryd.underlying38 hi hz0 hz1 hz2 rfl (by decide) _ _ _ rfl (hO1.alloc _) ⟨W0.heap.size, 0, none⟩ 1 1 [.string b] rfl rfl (cell_one_new _ _ _) (by simp [Value.oneCell']) (by unfold maxLen; omega) (by omega) (by show w.heap.size ≤ (W0.heap.push _).size; rw [Array.size_push]; omega) ?_; intro v2 w2 hown' hgrow _)
      go_roundw
      case rel =>
        refine NX.out v2 w2 ?_ hown' ((hg1.alloc hg1.size _).grown hgrow (by show w.heap.size ≤ (W0.heap.push _).size; rw [Array.size_push]; omega) (fun k hk => (hO1.lt k hk).1))
        obtain ⟨g', c', hv, _, _⟩ := World.ownsRow.form hown' (by omega)
        exact ⟨g', c', hv⟩
      case measure => simp [intOf]; omega
    · obtain rfl : k = 15 := by omega
      have hW : Wd g wr := ⟨(hO.lt g rfl).2, fun j hj => by
        rw [hO.cellAt _ (by rw [Nat.mul_one]; exact hj), List.take_of_length_le (by rw [wordsV_len]; exact Nat.le_refl _)]
        exact wordsV_at j hj⟩
      have hW' := Lib.hid hW
      have hg' := Lib.hid hg
      clear IX hO hg hW
      go_wp2_with fail
      go_ret
      exact ⟨_, _, rfl, hW'.out, hg'.out⟩
end Go.Proofs.YtikdhfedidknpaaDoor.Event
