/- The document's calls under what keeps a pool sound; a deed's handle. Conditions: none. -/
import Derived.Test.YtpiennnkgbfbbaaArenaRefN
namespace Go.Proofs.Ytpiennnkgbfbbaa.Arena
open Go.ChangeShapes Go.WideShapes Go.ChangeAt Go.RowKit
set_option linter.unusedVariables false
set_option linter.unusedSimpArgs false

section
variable {w : World} {B : Nat} {v1 v2 v3 v4 : Value} {st : St} {N : Int}
theorem refPut (x : Int) (h : RefAt B v1 v2 v3 v4 st w) (hB : B ≤ w.heap.size) (hI : Inv N st) :
    Calls Try.prog 14 #[.agg #[.int .i64 st.room, v1, v2, v3, v4], .int .i64 x] w (IsPutR B st.room v1 v2 v3 v4 (st.put x).i (st.put x).g (st.put x).n (st.put x).st w) := by
  have l1 := hI.l1
  have l2 := hI.l2
  rcases hI.put x with ⟨hf, hl, e⟩ | ⟨hf, hl, e⟩ | ⟨l, i, q, hf, hq, hqf, e⟩
  · rw [e]; exact refPut_full w B v1 v2 v3 v4 st x h l1 hf hl
  · rw [e]; exact refPut_new w B v1 v2 v3 v4 st x h hB l1 l2 hf hl
  · rw [e]; exact refPut_old w B v1 v2 v3 v4 st x h hB l1 l2 l i q hf hq
theorem refSet (i g x : Int) (h : RefAt B v1 v2 v3 v4 st w) (hB : B ≤ w.heap.size) (hI : Inv N st) :
    Calls Try.prog 18 #[.agg #[.int .i64 st.room, v1, v2, v3, v4], .agg #[.int .i64 i, .int .i64 g], .int .i64 x] w (IsSet B st.room v1 v2 v3 v4 (st.err i g) (st.set i g x) w) := by
  cases hn : st.names i g
  · rw [show st.set i g x = st by simp [St.set, hn], show st.err i g = 2 by simp [St.err, hn]]
    exact refSet_none w B st.room v1 v2 v3 v4 st i g x h hI.l1 hn
  obtain ⟨k, q, rfl, hq, hqf, rfl⟩ := St.named hn
  rw [show st.set k q.gen x = { st with pl := st.pl.set k ⟨x, true, q.gen⟩ } by simp [St.set, hn], show st.err k q.gen = 0 by simp [St.err, hn]]
  exact refSet_some w B st.room v1 v2 v3 v4 st k q x h hB hI.l1 hI.l2 hq hqf
theorem refFree (i g : Int) (h : RefAt B v1 v2 v3 v4 st w) (hB : B ≤ w.heap.size) (hI : Inv N st) (hN : N ≤ 1000000000) :
    Calls Try.prog 20 #[.agg #[.int .i64 st.room, v1, v2, v3, v4], .agg #[.int .i64 i, .int .i64 g]] w (IsFreeR B st.room v1 v2 v3 v4 (st.thing i g) (st.err i g) (st.free i g) w) := by
  cases hn : st.names i g
  · rw [show st.free i g = st by simp [St.free, hn], show st.err i g = 2 by simp [St.err, hn], show st.thing i g = 0 by simp [St.thing, hn]]
    exact refFree_none w B st.room v1 v2 v3 v4 st i g h hI.l1 hn
  obtain ⟨k, q, rfl, hq, hqf, rfl⟩ := St.named hn
  have := hI.gens q (List.mem_of_getElem? hq)
  rw [show st.free k q.gen = { st with pl := st.pl.set k ⟨0, false, q.gen + 1⟩, fr := st.fr ++ [k] } by simp [St.free, hn], show st.err k q.gen = 0 by simp [St.err, hn], show st.thing k q.gen = q.thing by simp [St.thing, hn, St.at, hq]]
  exact refFree_some w B st.room v1 v2 v3 v4 st k q h hB hI.l1 hI.l2 hq hqf (by omega) (by omega)
end
theorem put_room (st : St) (x : Int) : (st.put x).st.room = st.room := by
  unfold St.put
  split
  · split <;> rfl
  · split <;> rfl
theorem set_room (st : St) (i g x : Int) : (st.set i g x).room = st.room := by unfold St.set; split <;> rfl
theorem free_room (st : St) (i g : Int) : (st.free i g).room = st.room := by unfold St.free; split <;> rfl

def IsWhich (w : World) (e : Ending) (w' : World) : Prop := ∃ i g : Int, e = .returned (.agg #[.int .i64 i, .int .i64 g]) ∧ Below w.heap.size w w'
theorem which (w : World) (B : Nat) (vt : Value) (T : List (Int × Int)) (d0 d1 d2 d3 d4 : Int) (hT : w.ownsRow B 36 2 vt T.length (cellsH T)) (hl : T.length ≤ 4096) :
    Calls Try.prog 12 #[.agg #[.int .i64 d0, .int .i64 d1, .int .i64 d2, .int .i64 d3, .int .i64 d4], vt] w (IsWhich w) := by
  by_cases h0 : d2 < 0
  · have h1 : decide (0 ≤ d2) = false := by simp; omega
    clear hT
    go_enter Try.func12, Try.ntmps12
    go_wp2
    refine bodyPost_ret (v := .agg #[.int .i64 d3, .int .i64 d4]) (by simp [results, Try.results12, go_sem]) rfl ?_
    exact ⟨_, _, rfl, by go_grown⟩
  have h1 : 0 ≤ d2 := by omega
  by_cases hT0 : T.length = 0
  · obtain ⟨ao, c, rfl⟩ := owns_shape hT
    rw [hT0]
    clear hT
    go_enter Try.func12, Try.ntmps12
    go_wp2
    refine bodyPost_ret (v := .agg #[.int .i64 d3, .int .i64 d4]) (by simp [results, Try.results12, go_sem]) rfl ?_
    exact ⟨_, _, rfl, by go_grown⟩
  have hT1 : 0 < (T.length : Int) := by omega
  obtain ⟨j, hj⟩ := Int.eq_ofNat_of_zero_le (Int.emod_nonneg d2 (show (T.length : Int) ≠ 0 by omega))
  have hjT : j < T.length := by have := Int.emod_lt_of_pos d2 hT1; omega
  have hjT1 : (j : Int) < T.length := by omega
  have hkz1 : ¬ (T.length : Int) = 0 := by omega
  obtain ⟨p, hpj⟩ : ∃ p, T[j]? = some p := ⟨_, List.getElem?_eq_getElem hjT⟩
  obtain ⟨g, c, rfl, c0, c1⟩ := told_cell hT hpj
  replace c0 := cell_alloc2 c0
  replace c1 := cell_alloc2 c1
  clear hT
  go_enter Try.func12, Try.ntmps12
  go_wp2
  refine bodyPost_ret (v := .agg #[.int .i64 p.1, .int .i64 p.2]) (by simp [results, Try.results12, go_sem]) rfl ?_
  exact ⟨_, _, rfl, by go_grown⟩
end Go.Proofs.Ytpiennnkgbfbbaa.Arena
