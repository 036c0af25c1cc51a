/- What New and All of package arena answer. Conditions: none. -/
import Derived.Test.YtanahddlnchioaaHpFree
import Derived.LoopTactic
namespace Go.Proofs.Ytanahddlnchioaa.Hp
open Go.ChangeShapes Go.WideShapes Go.ChangeAt Go.RowKit
set_option linter.unusedVariables false
set_option linter.unusedSimpArgs false

/-- The handles of the first k places. -/
def hs (pl : List Pl) : Nat → List (Int × Int)
  | 0 => []
  | k + 1 => hs pl k ++ (match pl[k]? with | some q => if q.full then [((k : Int), q.gen)] else [] | none => [])
def cellsH (l : List (Int × Int)) : List Value := l.flatMap fun p => [Value.int .i64 p.1, Value.int .i64 p.2]
theorem hs_full {pl : List Pl} {k : Nat} {q : Pl} (h : pl[k]? = some q) (hf : q.full = true) : hs pl (k + 1) = hs pl k ++ [((k : Int), q.gen)] := by simp [hs, h, hf]
theorem hs_free {pl : List Pl} {k : Nat} {q : Pl} (h : pl[k]? = some q) (hf : q.full = false) : hs pl (k + 1) = hs pl k := by simp [hs, h, hf]
theorem hs_le (pl : List Pl) (k : Nat) : (hs pl k).length ≤ k := by
  induction k with
  | zero => simp [hs]
  | succ k ih =>
    simp only [hs, List.length_append]
    split
    · split <;> simp <;> omega
    · simp; omega
theorem cellsH_append (a b : List (Int × Int)) : cellsH (a ++ b) = cellsH a ++ cellsH b := by simp [cellsH]

def IsNew (room : Int) (w : World) (e : Ending) (w' : World) : Prop := e = .returned (.tuple #[.pointer (some ⟨w.heap.size, 0, none⟩), .int .i64 0]) ∧ Pool w' w.heap.size (· < w.heap.size) ⟨room, [], []⟩ ∧ Below w.heap.size w w'
theorem new (w : World) (room : Int) (h1 : 1 ≤ room) (h2 : room ≤ 4096) : Calls Try.prog 20 #[.int .i64 room] w (IsNew room w) := by
  go_enter Try.func20, Try.ntmps20
  go_wp2
  go_ret2
  exact ⟨rfl, ⟨_, _, heap_alloc_new w _, Nat.lt_irrefl _, ⟨World.ownsRow_nil _ _ _ _, by simp [Value.ownBlock]⟩, ⟨World.ownsRow_nil _ _ _ _, by simp [Value.ownBlock]⟩⟩, (Below.refl _ w).alloc (Nat.le_refl _) _⟩
theorem new_none (w : World) (room : Int) (h : room < 1 ∨ 4096 < room) : Calls Try.prog 20 #[.int .i64 room] w (fun e w' => e = .returned (.tuple #[.pointer none, .int .i64 1]) ∧ w' = w) := by
  by_cases h1 : room < 1
  all_goals
    go_enter Try.func20, Try.ntmps20
    go_wp2
    go_ret2
    exact ⟨rfl, rfl⟩

/-- A slice of handles, in memory of its own. -/
def IsAll (l : List (Int × Int)) (w : World) (e : Ending) (w' : World) : Prop := ∃ v, e = .returned v ∧ w'.ownsRow w.heap.size 34 2 v l.length (cellsH l) ∧ Below w.heap.size w w'
theorem all_nil (w : World) : Calls Try.prog 44 #[.pointer none] w (fun e w' => e = .returned (.slice none 0 0) ∧ Below w.heap.size w w') := by
  go_enter Try.func44, Try.ntmps44
  go_wp2
  go_ret
  exact ⟨rfl, Below.refl _ w⟩
theorem infoH : (Try.prog.info? 34).map (fun i => (i.zero, i.size, i.bytes)) = some (some (.agg #[.int .i64 0, .int .i64 0]), 2, 16) := by kernel_rfl

theorem owns_fresh {w w' : World} {B : Nat} {e : TypeId} {size : Nat} {v : Value} {n : Nat} {xs : List Value} (h : w.ownsRow B e size v n xs) (hB : Below w.heap.size w w') : w'.ownsRow B e size v n xs := by
  refine ⟨h.1, ?_⟩
  rcases h.2 with h1 | ⟨g, cap, cur, rfl, h0, hg, h1⟩
  · exact .inl h1
  · exact .inr ⟨g, cap, cur, rfl, h0, by rw [hB.block g (lt_of hg), hg], h1⟩
def AllI (pl : List Pl) (w : World) (v i : Value) (wr : World) : Prop := ∃ k : Nat, k ≤ pl.length ∧ i = .int .i64 k ∧ wr.ownsRow w.heap.size 34 2 v (hs pl k).length (cellsH (hs pl k)) ∧ Below w.heap.size w wr

theorem all (w : World) (b : Nat) (O : Nat → Prop) (st : St) (h : Pool w b O st) (h1 : st.pl.length ≤ 4096) :
    Calls Try.prog 44 #[.pointer (some ⟨b, 0, none⟩)] w (IsAll (hs st.pl st.pl.length) w) := by
  obtain ⟨i0, hi, hz0, hz1, hz2⟩ := info_parts infoH
  obtain ⟨vp, vf, hP⟩ := h.parts
  obtain ⟨c0, c1, c2, fz⟩ := Pool.cells hP.blk
  obtain ⟨ap, cp, rfl, _⟩ := hP.pl.shape
  clear hP c0 c2
  go_enter Try.func44, Try.ntmps44
  go_wp2
  go_loopw [3, 4, 12] (fun v _ i wr => AllI st.pl w v i wr) (fun _ _ i _ => st.pl.length - (intOf i).toNat)
  case atStart => exact ⟨0, by omega, rfl, World.ownsRow_nil _ _ _ _, Below.refl _ w⟩
  case round =>
    obtain ⟨k, hk, rfl, hown, hg⟩ := hrel
    clear c1 fz
    have hl := hs_le st.pl k
    by_cases hlt : k < st.pl.length
    · obtain ⟨q, hq⟩ : ∃ q, st.pl[k]? = some q := ⟨_, List.getElem?_eq_getElem hlt⟩
      have hlt1 : (k : Int) < st.pl.length := by omega
      replace h := h.fresh hg
      obtain ⟨vp, vf, hP⟩ := h.parts
      obtain ⟨c0, c1, c2, fz⟩ := Pool.cells hP.blk
      obtain ⟨gp, cp, rfl, k0, kt, k1, k2⟩ := hP.pl.places hq
      clear hP c0 c2
      cases hf : q.full
      · rw [hf] at k1
        go_wp2_with fail
        go_roundw
        case rel => exact ⟨k + 1, by omega, by go_num, by rw [hs_free hq hf]; exact hown, hg⟩
        case measure => simp [intOf]; omega
      · rw [hf] at k1
        have hz := hg.size
        go_wp2_with (first
          | (go_at_call 49; refine (handle wr b O st k q h h1 hq).mono ?_; rintro e w1 ⟨rfl, hg1⟩; replace hown := owns_fresh hown hg1; replace hg := fresh_trans hg hg1; replace hz := hg.size; clear hg1)
          | (at_builtin; refine wpList_append_own _ rfl (.tmp 23) (.tmp 27) 35 rfl w.heap.size 34 i0 _ 2 16 Try.underlying35 hi hz0 hz1 hz2 rfl (by decide) _ _ _ rfl (hown.alloc _) ⟨w1.heap.size, 0, none⟩ 1 1 [.int .i64 (k : Int), .int .i64 q.gen] rfl rfl (World.news_of_block (heap_alloc_new w1 _)) (by simp [Value.oneCell']) (by simp only [maxLen]; omega) (by omega) (by simp; omega) ?_; intro v' w2 hown2 hgrow2 _; replace hg := (hg.alloc hz _).grown hgrow2 (by simp; omega) (fun j hj => (hown.lt j hj).1)))
        go_roundw
        case rel => exact ⟨k + 1, by omega, by go_num, by rw [hs_full hq hf, cellsH_append]; simpa [cellsH] using hown2, hg⟩
        case measure => simp [intOf]; omega
    · obtain rfl : k = st.pl.length := by omega
      go_wp2
      go_ret
      exact ⟨_, rfl, hown, hg⟩
end Go.Proofs.Ytanahddlnchioaa.Hp
