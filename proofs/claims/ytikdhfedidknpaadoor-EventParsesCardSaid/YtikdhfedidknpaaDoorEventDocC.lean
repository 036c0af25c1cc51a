/- What the document's cut makes of a text: its parts. Conditions: the text is of at most 2^30 bytes. -/
import Derived.Test.YtikdhfedidknpaaDoorEventWords
namespace Go.Proofs.YtikdhfedidknpaaDoor.Event
open Go.ChangeShapes Go.WideShapes Go.ChangeAt Go.RowKit
open Mem (box_fresh owns_fresh)
set_option linter.unusedVariables false
set_option linter.unusedSimpArgs false
set_option maxRecDepth 100000

/-- Texts, in a block. -/
def Strs (a : Option Addr) (L : List (List UInt8)) (w : World) : Prop := ∀ j p, L[j]? = some p → ∃ b, a = some ⟨b, 0, none⟩ ∧ b < w.heap.size ∧ w.cell? ⟨b, j, none⟩ = some (.string (str p))
theorem Strs.fresh {a : Option Addr} {L : List (List UInt8)} {w w' : World} (h : Strs a L w) (hb : Below w.heap.size w w') : Strs a L w' := fun j p hp => by
  obtain ⟨b, e1, e2, e3⟩ := h j p hp
  exact ⟨b, e1, Nat.lt_of_lt_of_le e2 hb.size, (hb.cell (p := ⟨b, j, none⟩) e2).trans e3⟩
def strV (L : List (List UInt8)) : List Value := L.map fun p => .string (str p)
theorem strV_len (L : List (List UInt8)) : (strV L).length = L.length := by simp [strV]
theorem strV_snoc (L : List (List UInt8)) (p : List UInt8) : strV (L ++ [p]) = strV L ++ [.string (str p)] := by simp [strV]
def OwnS (B : Nat) (v : Value) (L : List (List UInt8)) (w : World) : Prop := w.ownsRow B 9 1 v L.length (strV L)
theorem OwnS.shape {B : Nat} {v : Value} {L : List (List UInt8)} {w : World} (h : OwnS B v L w) : ∃ a cap, v = .slice a L.length cap := Mem.owns_shape h
theorem OwnS.strs {B : Nat} {a : Option Addr} {n c : Nat} {L : List (List UInt8)} {w : World} (h : OwnS B (.slice a n c) L w) : Strs a L w := by
  have hn : n = L.length := by
    obtain ⟨_, _, e⟩ := h.shape
    cases e; rfl
  subst hn
  intro j p hp
  have hj := (List.getElem?_eq_some_iff.1 hp).1
  rcases h.2 with ⟨e1, e2⟩ | ⟨g, cap, cur, e1, h0, hg, h1⟩
  · have h3 : L.length = 0 := e2
    omega
  · cases e1
    have h' : w.ownsRow B 9 1 (.slice (some ⟨g, 0, none⟩) L.length c) L.length (strV L) := h
    refine ⟨g, rfl, (h'.lt g rfl).2, ?_⟩
    rw [h'.cellAt _ (by rw [Nat.mul_one]; exact hj)]
    unfold strV
    rw [List.getElem?_map, hp]
    rfl
theorem OwnS.cap {B : Nat} {a : Option Addr} {n c : Nat} {L : List (List UInt8)} {w : World} (h : OwnS B (.slice a n c) L w) : L.length ≤ c := by
  rcases h.2 with ⟨e1, e2⟩ | ⟨g, cap, cur, e1, h0, hg, h1, h2⟩
  · cases e1; have h3 : L.length = 0 := e2; omega
  · cases e1; exact h1
def IsCut (L : List (List UInt8)) (w : World) (e : Ending) (w' : World) : Prop := ∃ a cap, e = .returned (.slice a L.length cap) ∧ L.length ≤ cap ∧ Strs a L w' ∧ Below w.heap.size w w'
/-- The parts that lie before a place, and what is left of it. -/
def CuI (l : List UInt8) (c : UInt8) (B : Nat) (w : World) (v f t : Value) (wr : World) : Prop :=
  ∃ (i fr : Nat) (out : List (List UInt8)), fr ≤ i ∧ i ≤ l.length ∧ f = .int .i64 fr ∧ t = .int .i64 i ∧ OwnS B v out wr ∧ Below B w wr ∧ B ≤ wr.heap.size ∧ out.length ≤ i ∧ Hid (out ++ spl c (l.drop fr) = spl c l ∧ ∀ x ∈ (l.drop fr).take (i - fr), x ≠ c)
theorem spl_step {c : UInt8} {l : List UInt8} {fr i : Nat} (h1 : fr ≤ i) (h2 : l[i]? = some c) (h3 : ∀ x ∈ (l.drop fr).take (i - fr), x ≠ c) : spl c (l.drop fr) = (l.drop fr).take (i - fr) :: spl c (l.drop (i + 1)) := by
  have hi : i < l.length := (List.getElem?_eq_some_iff.1 h2).1
  have e : l.drop fr = (l.drop fr).take (i - fr) ++ c :: l.drop (i + 1) := by
    conv => lhs; rw [← List.take_append_drop (i - fr) (l.drop fr)]
    congr 1
    rw [List.drop_drop, show fr + (i - fr) = i by omega, List.drop_eq_getElem_cons hi]
    congr 1
    exact (List.getElem?_eq_some_iff.1 h2).2
  conv => lhs; rw [e]
  exact spl_part h3 _
theorem spl_end {c : UInt8} {l : List UInt8} {fr : Nat} (h3 : ∀ x ∈ (l.drop fr).take (l.length - fr), x ≠ c) : spl c (l.drop fr) = [l.drop fr] := by
  rw [List.take_of_length_le (by rw [List.length_drop]; exact Nat.le_refl _)] at h3
  exact spl_none h3
theorem take_snoc {l : List UInt8} {fr i : Nat} (h1 : fr ≤ i) {x : UInt8} (h2 : l[i]? = some x) : (l.drop fr).take (i + 1 - fr) = (l.drop fr).take (i - fr) ++ [x] := by
  rw [show i + 1 - fr = (i - fr) + 1 by omega, List.take_add_one, List.getElem?_drop, show fr + (i - fr) = i by omega, h2]
  rfl
set_option maxHeartbeats 4000000 in
theorem docCut (l : List UInt8) (hl : l.length ≤ 1073741824) (c : UInt8) (w : World) : Calls Tryd.prog 22 #[.string (str l), .int .u8 (c.toNat : Int)] w (IsCut (spl c l) w) := by
  obtain ⟨i0, hi, hz0, hz1, hz2⟩ := Mem.info_parts infoStr
  have hfs := Lib.hid (str_size l)
  have hfd := Lib.hid (str_list l)
  have hsz := hfs.out
  have st : Hid (CuI l c w.heap.size w (.slice none 0 0) (.int .i64 0) (.int .i64 0) w) := Lib.hid ⟨0, 0, [], Nat.le_refl _, Nat.zero_le _, rfl, rfl, ⟨rfl, .inl ⟨rfl, rfl⟩⟩, Below.refl _ _, Nat.le_refl _, Nat.zero_le _, Lib.hid ⟨rfl, fun x hx => by simp at hx⟩⟩
  generalize str l = F at *
  go_enter Tryd.func22, Tryd.ntmps22
  go_upto_region 4 with fail
  go_loopw [5, 6, 7] (fun v f t wr => CuI l c w.heap.size w v f t wr) (fun _ _ t _ => F.size - (intOf t).toNat)
  case atStart => exact st.out
  case round =>
    clear st
    obtain ⟨i, fr, out, hi1, hi2, rfl, rfl, hO, hg, hB, hol, hs⟩ := hrel
    obtain ⟨va, vc, rfl⟩ := hO.shape
    by_cases hlt2 : i < F.size
    · have hlt' : (i : Int) < (F.size : Int) := by omega
      obtain ⟨x, hx⟩ : ∃ c, F[i] = c := ⟨_, rfl⟩
      have hat : l[i]? = some x := by rw [← hfd.out, Mask.data_at F i hlt2, hx]
      by_cases hxc : x = c
      · subst hxc
        have hq : ((x.toNat : Int) == (x.toNat : Int)) = true := by simp
        have hfi : (fr : Int) ≤ (i : Int) := by omega
        have hex : F.extract fr i = str ((l.drop fr).take (i - fr)) := by
          rw [str_data (F.extract fr i)]
          congr 1
          rw [← ByteArray.toList_eq, Lib.extract_toList, hfd.out]
        have hsp := spl_step hi1 hat hs.out.2
        have hs1 := hs.out.1
        rw [hsp] at hs1
        have NX : Hid (∀ v' W, OwnS w.heap.size v' (out ++ [(l.drop fr).take (i - fr)]) W → Below w.heap.size w W → CuI l x w.heap.size w v' (.int .i64 ((i : Int) + 1)) (.int .i64 ((i : Int) + 1)) W) := Lib.hid (fun v' W h1 h2 => ⟨i + 1, i + 1, _, Nat.le_refl _, by omega, by go_num, by go_num, h1, h2, h2.size, by simp; omega, Lib.hid ⟨by rw [List.append_assoc]; exact hs1, by rw [Nat.sub_self, List.take_zero]; intro y hy; cases hy⟩⟩)
        generalize (l.drop fr).take (i - fr) = P at *
        have hO2 : wr.ownsRow w.heap.size 9 1 (.slice va out.length vc) out.length (strV out) := hO
        have hEX := Lib.hid hex
        clear hs hs1 hsp hat hO hex
        go_wp2_with (at_builtin; refine wpList_append_own _ rfl _ _ 38 rfl w.heap.size 9 i0 (.string ⟨#[]⟩) 1 16 Tryd.underlying38 hi hz0 hz1 hz2 rfl (by decide) _ _ _ rfl (hO2.alloc _) ⟨wr.heap.size, 0, none⟩ 1 1 [.string (F.extract fr i)] rfl rfl (cell_one_new _ _ _) (by simp [Value.oneCell']) (by unfold maxLen; omega) (by omega) (by show w.heap.size ≤ (wr.heap.push _).size; rw [Array.size_push]; omega) ?_; intro v2 w2 hown' hgrow _)
        go_roundw
        case rel =>
          refine NX.out v2 w2 ?_ ((hg.alloc hg.size _).grown hgrow (by show w.heap.size ≤ (wr.heap.push _).size; rw [Array.size_push]; omega) (fun k hk => (hO2.lt k hk).1))
          unfold OwnS
          rw [strV_snoc, List.length_append, List.length_singleton, ← hEX.out]
          exact hown'
        case measure => simp [intOf]; omega
      · have hq : ((x.toNat : Int) == (c.toNat : Int)) = false := by
          have : x.toNat ≠ c.toNat := fun h => hxc (UInt8.toNat_inj.1 h)
          simpa using (show ¬ (x.toNat : Int) = (c.toNat : Int) by omega)
        have NX : Hid (CuI l c w.heap.size w (.slice va out.length vc) (.int .i64 fr) (.int .i64 ((i : Int) + 1)) wr) := Lib.hid ⟨i + 1, fr, out, by omega, by omega, rfl, by go_num, hO, hg, hB, by omega, Lib.hid ⟨hs.out.1, by
          rw [take_snoc hi1 hat]
          intro y hy
          rcases List.mem_append.1 hy with hy | hy
          · exact hs.out.2 y hy
          · rw [List.mem_singleton] at hy; rw [hy]; exact hxc⟩⟩
        clear hs hat hO hg hxc
        go_wp2_with fail
        go_roundw
        case rel => exact NX.out
        case measure => simp [intOf]; omega
    · obtain rfl : i = F.size := by omega
      have hfi : (fr : Int) ≤ (F.size : Int) := by omega
      have hex : F.extract fr F.size = str (l.drop fr) := by
        rw [str_data (F.extract fr F.size)]
        congr 1
        rw [← ByteArray.toList_eq, Lib.extract_toList, hfd.out, List.take_of_length_le (by rw [List.length_drop]; omega)]
      have hs2 := hs.out.2
      rw [hsz] at hs2
      have hsp := spl_end hs2
      have hs1 := hs.out.1
      rw [hsp] at hs1
      have hO2 : wr.ownsRow w.heap.size 9 1 (.slice va out.length vc) out.length (strV out) := hO
      have hEX := Lib.hid hex
      have HS := Lib.hid hs1
      have hol2 : out.length ≤ 1073741824 := by omega
      clear hs hs1 hsp hs2 hO hex hsz hi2 hol
      go_wp2_with (at_builtin; refine wpList_append_own _ rfl _ _ 38 rfl w.heap.size 9 i0 (.string ⟨#[]⟩) 1 16 Tryd.underlying38 hi hz0 hz1 hz2 rfl (by decide) _ _ _ rfl (hO2.alloc _) ⟨wr.heap.size, 0, none⟩ 1 1 [.string (F.extract fr F.size)] rfl rfl (cell_one_new _ _ _) (by simp [Value.oneCell']) (by unfold maxLen; omega) (by omega) (by show w.heap.size ≤ (wr.heap.push _).size; rw [Array.size_push]; omega) ?_; intro v2 w2 hown' hgrow _)
      have hown2 : OwnS w.heap.size v2 (spl c l) w2 := by
        unfold OwnS
        rw [← HS.out, strV_snoc, List.length_append, List.length_singleton, ← hEX.out]
        exact hown'
      have hg2 := (hg.alloc hg.size _).grown hgrow (by show w.heap.size ≤ (wr.heap.push _).size; rw [Array.size_push]; omega) (fun k hk => (hO2.lt k hk).1)
      obtain ⟨a2, c2, rfl⟩ := hown2.shape
      go_ret
      exact ⟨a2, c2, rfl, hown2.cap, hown2.strs, hg2⟩
end Go.Proofs.YtikdhfedidknpaaDoor.Event
