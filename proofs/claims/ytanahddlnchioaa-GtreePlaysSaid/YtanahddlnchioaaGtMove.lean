/- What reach and Move of package gtree do. Conditions: none. -/
import Derived.Test.YtanahddlnchioaaGtThose
import Derived.Test.YtanahddlnchioaaGtLaws
import Derived.Deep.RegionHeld3
namespace Go.Proofs.Ytanahddlnchioaa.Gt
open Go.ChangeShapes Go.WideShapes Go.ChangeAt Go.RowKit Hp
set_option linter.unusedVariables false
set_option linter.unusedSimpArgs false

/-- How much deeper than d the deepest of some is; 0, if none is deeper. -/
def mx (st : St) (d : Nat) : List (Int × Int) → Int
  | [] => 0
  | q :: l => max (((upsOf st q.1 q.2).length : Int) - d) (mx st d l)
def mxr (st : St) (d : Nat) (L : List (Int × Int)) (k : Nat) : Int := mx st d (L.take k).reverse
theorem mxr_zero (st : St) (d : Nat) (L : List (Int × Int)) : mxr st d L 0 = 0 := rfl
theorem mxr_succ {st : St} {d : Nat} {L : List (Int × Int)} {k : Nat} {q : Int × Int} (h : L[k]? = some q) : mxr st d L (k + 1) = max (((upsOf st q.1 q.2).length : Int) - d) (mxr st d L k) := by
  unfold mxr
  rw [List.take_add_one, h, List.reverse_append]
  rfl
theorem mx_le {st : St} {d : Nat} {l : List (Int × Int)} {B : Int} (h0 : 0 ≤ B) (h : ∀ q ∈ l, ((upsOf st q.1 q.2).length : Int) - d ≤ B) : mx st d l ≤ B := by
  induction l with
  | nil => exact h0
  | cons q l ih =>
    have h1 := h q (by simp)
    have h2 := ih (fun p hp => h p (by simp [hp]))
    simp only [mx]; omega
theorem mx_ge {st : St} {d : Nat} {l : List (Int × Int)} : 0 ≤ mx st d l ∧ ∀ q ∈ l, ((upsOf st q.1 q.2).length : Int) - d ≤ mx st d l := by
  induction l with
  | nil => exact ⟨Int.le_refl _, by simp⟩
  | cons q l ih =>
    refine ⟨by simp only [mx]; omega, fun p hp => ?_⟩
    rcases List.mem_cons.1 hp with rfl | hp
    · simp only [mx]; omega
    · have := ih.2 p hp; simp only [mx]; omega
/-- Those below a group; how much deeper the deepest of them is. -/
def belowOf (st : St) (i g : Int) : List (Int × Int) := (hs st.pl st.pl.length).filter fun q => under? st q.1 q.2 i g
def reachOf (st : St) (i g : Int) : Int := mxr st (upsOf st i g).length (belowOf st i g) (belowOf st i g).length

def ReachI (w : World) (st : St) (d : Nat) (L : List (Int × Int)) (left : Nat) (t6 t16 : Value) (wr : World) : Prop :=
  ∃ k : Nat, left + k = L.length ∧ t16 = .int .i64 k ∧ t6 = .int .i64 (mxr st d L k) ∧ 0 ≤ mxr st d L k ∧ mxr st d L k ≤ 4096 ∧ Below w.heap.size w wr
set_option maxHeartbeats 4000000 in
theorem reach (w : World) (tb b : Nat) (O : Nat → Prop) (st : St) (i g : Int) (h : Tre w tb b O st) (h1 : st.pl.length ≤ 4096) (ho : Ok st) (hn : st.names i g = true) :
    Calls Try.prog 34 #[.pointer (some ⟨tb, 0, none⟩), .agg #[.int .i64 i, .int .i64 g]] w (IsInt (reachOf st i g) w) := by
  obtain ⟨hu, hl⟩ := ho.ups hn
  have S : Hid _ := fun w h => steps w tb b O st i g _ h h1 hu (by omega)
  have B : Hid _ := fun w h => below w tb b O st i g h h1 ho
  have S2 : Hid (∀ q ∈ belowOf st i g, ∀ w', Tre w' tb b O st → (upsOf st q.1 q.2).length ≤ 8 ∧ Calls Try.prog 33 #[.pointer (some ⟨tb, 0, none⟩), .agg #[.int .i64 q.1, .int .i64 q.2]] w' (IsInt (upsOf st q.1 q.2).length w')) := fun q hq w' hw => by
    have hq' : st.names q.1 q.2 = true := hs_named (List.mem_filter.1 hq).1
    obtain ⟨hu', hl'⟩ := ho.ups hq'
    exact ⟨hl', steps w' tb b O st q.1 q.2 _ hw h1 hu' (by omega)⟩
  have hLl : (belowOf st i g).length ≤ 4096 := Nat.le_trans (List.length_filter_le _ _) (Nat.le_trans (hs_le _ _) h1)
  unfold reachOf
  replace B : Hid (∀ w, Tre w tb b O st → Calls Try.prog 43 #[.pointer (some ⟨tb, 0, none⟩), .agg #[.int .i64 i, .int .i64 g]] w (IsAll (belowOf st i g) w)) := B
  generalize belowOf st i g = L at *
  generalize (upsOf st i g).length = d at *
  clear hu hn
  go_enter Try.func34, Try.ntmps34
  go_wp2_with (first
    | (go_at_call 33; refine (S.out _ (h.fresh (alloc1 _ _))).mono ?_; rintro e w1 ⟨rfl, hg1⟩; obtain ⟨a0, a1⟩ := two hg1 rfl; have hg := fresh_trans (alloc1 _ _) hg1; clear hg1)
    | (go_at_call 43; refine (B.out _ (h.fresh hg)).mono ?_; rintro e w2 ⟨v, rfl, hown, hg2⟩; obtain ⟨ao, cp, rfl⟩ : ∃ ao cp, v = .slice ao L.length cp := (by rcases hown.2 with ⟨e, e2⟩ | ⟨_, _, _, e, _⟩; exact ⟨none, 0, by rw [e, e2]⟩; exact ⟨_, _, e⟩); have hg3 := fresh_trans hg hg2; clear hg2))
  go_loopg [6, 16] L.length (fun left t6 t16 wr => ReachI w2 st d L left t6 t16 wr)
  case atStart => exact ⟨0, by omega, rfl, rfl, Int.le_refl _, by rw [mxr_zero]; omega, Below.refl _ _⟩
  case round =>
    obtain ⟨k, hk, rfl, rfl, m0, m1, hb⟩ := hrel
    by_cases hlt : k < L.length
    · have h3 : (k : Int) < L.length := by omega
      obtain ⟨q, hq⟩ : ∃ q, L[k]? = some q := ⟨_, List.getElem?_eq_getElem hlt⟩
      obtain ⟨gr, cp', e', -⟩ := hown.form (by omega)
      cases e'
      obtain ⟨x0, x1⟩ := cellsH_at' hq
      have r0 := hown.cellAt (k * 2) (by omega)
      have r1 := hown.cellAt (k * 2 + 1) (by omega)
      rw [x0] at r0
      rw [x1] at r1
      replace r0 := (hb.cell (World.block_lt_of_cell? w2 _ r0)).trans r0
      replace r1 := (hb.cell (World.block_lt_of_cell? w2 _ r1)).trans r1
      have hgr := hg3.trans (hb.mono hg3.size)
      obtain ⟨hl8, -⟩ := S2.out q (List.mem_of_getElem? hq) _ (h.fresh hgr)
      have C := Lib.hid (S2.out q (List.mem_of_getElem? hq) (wr.alloc (.cells #[.int .i64 q.1, .int .i64 q.2] 34)) (h.fresh (hgr.alloc hgr.size _))).2
      have E := mxr_succ (st := st) (d := d) hq
      have F : Hid (∀ w3, Below (wr.alloc (.cells #[.int .i64 q.1, .int .i64 q.2] 34)).heap.size (wr.alloc (.cells #[.int .i64 q.1, .int .i64 q.2] 34)) w3 → ReachI w2 st d L (gk - 1) (.int .i64 (max (mxr st d L k) (((upsOf st q.1 q.2).length : Int) - d))) (.int .i64 ((k : Int) + 1)) w3) := fun w3 h3 =>
        ⟨k + 1, by omega, by go_num, by rw [E, Int.max_comm], by rw [E]; omega, by rw [E]; omega, hb.trans ((fresh_trans (alloc1 _ _) h3).mono hb.size)⟩
      generalize mxr st d L k = m at *
      generalize (upsOf st q.1 q.2).length = lq at *
      obtain ⟨qx, qy⟩ := q
      simp only at *
      clear E S S2 B hown x0 x1 hq
      go_wp2_with (go_at_call 33; refine C.out.mono ?_; rintro e w3 ⟨rfl, h3'⟩)
      all_goals
        go_roundg (gk - 1)
        case measure => omega
        case rel =>
          have G := F.out _ h3'
          first
            | (rw [show max m ((lq : Int) - d) = (lq : Int) - d by omega] at G; exact G)
            | (rw [show max m ((lq : Int) - d) = m by omega] at G; exact G)
    · have h3 : ¬ (k : Int) < L.length := by omega
      obtain rfl : k = L.length := by omega
      go_wp2_with fail
      go_ret
      exact ⟨rfl, hg3.trans (hb.mono hg3.size)⟩
end Go.Proofs.Ytanahddlnchioaa.Gt
