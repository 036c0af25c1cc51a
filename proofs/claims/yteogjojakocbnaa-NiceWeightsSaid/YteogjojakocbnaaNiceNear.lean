/- What nice.Nearest returns, at any weight: the greatest nice number whose weight is not below it; -20, if all are; and that nothing that lay there before has changed. Conditions: none. -/
import Derived.Test.YteogjojakocbnaaNiceIter
namespace Go.Proofs.Yteogjojakocbnaa.Nice
open Go.RowKit Go.Shelf
attribute [local go_sem] Oper.semAt_some
set_option linter.unusedVariables false

/-- The last nice number that came; -20 ahead of all. -/
def last (pre : List (Int × Int)) : Int := (pre.getLast?.map (·.1)).getD (-20)
theorem last_snoc (pre : List (Int × Int)) (p : Int × Int) : last (pre ++ [p]) = p.1 := by simp [last]
theorem last_pairs (k : Nat) : last (pairs k) = if k = 0 then -20 else (k : Int) - 21 := by
  cases k with
  | zero => rfl
  | succ k => rw [pairs_succ, last_snoc]; simp; omega
theorem all_pairs (x : Int) (k : Nat) (h : ∀ p ∈ pairs k, x ≤ p.2) (j : Nat) (hj : j < k) : x ≤ wgt ((j : Int) - 20) :=
  h ((j : Int) - 20, wgt ((j : Int) - 20)) (List.mem_map.2 ⟨j, List.mem_range.2 hj, rfl⟩)
theorem near_all (x : Int) (h : ∀ p ∈ pairs 40, x ≤ p.2) : last (pairs 40) = nst x := by
  rw [last_pairs]
  refine nst_only x _ ⟨by simp, by simp, by simp, fun _ => ?_⟩
  have := all_pairs x 40 h 39 (by omega)
  simpa using this
theorem near_part (x : Int) (k : Nat) (hk : k ≤ 40) (pre : List (Int × Int)) (p : Int × Int) (e : pairs k = pre ++ [p]) (hp : p.2 < x) (h : ∀ q ∈ pre, x ≤ q.2) : last pre = nst x := by
  cases k with
  | zero => simp [pairs] at e
  | succ k =>
    rw [pairs_succ] at e
    obtain ⟨rfl, e2⟩ := List.append_inj' e rfl
    obtain rfl : ((k : Int) - 20, wgt ((k : Int) - 20)) = p := by simpa using e2
    dsimp only at hp
    rw [last_pairs]
    refine nst_only x _ ?_
    cases k with
    | zero => 
      have := lower (-20) (-19) (by omega) (by omega) (by omega)
      refine ⟨by simp, by simp, fun _ => ?_, by simp⟩
      simp at hp ⊢
      omega
    | succ k =>
      have := all_pairs x (k + 1) h k (by omega)
      rw [if_neg (by omega)]
      have e1 : ((k + 1 : Nat) : Int) - 21 + 1 = ((k + 1 : Nat) : Int) - 20 := by omega
      have e2 : ((k + 1 : Nat) : Int) - 21 = (k : Int) - 20 := by omega
      refine ⟨by omega, by omega, fun _ => by rw [e1]; exact hp, fun _ => by rw [e2]; exact this⟩

/-- What both variables hold between two rounds; and where the loop was left. -/
def NearI (x : Int) (w : World) (pre : List (Int × Int)) (W : World) : Prop := (Boxed W w.heap.size 23 (.int .u64 x) ∧ Boxed W (w.heap.size + 1) 3 (.int .i64 (last pre)) ∧ (∀ p ∈ pre, x ≤ p.2)) ∧ Below w.heap.size w W
def NearX (x : Int) (w : World) (c : Code) (pre : List (Int × Int)) (W : World) : Prop := (∃ pre' p, Boxed W (w.heap.size + 1) 3 (.int .i64 (last pre')) ∧ c = .exit 0 ∧ pre = pre' ++ [p] ∧ p.2 < x ∧ (∀ q ∈ pre', x ≤ q.2)) ∧ Below w.heap.size w W
theorem nearI_own (x : Int) (w : World) (B : Nat) (h : w.heap.size ≤ B) : OwnFrom B (NearI x w) :=
  OwnFrom.and (OwnFrom.and (Own.from (boxed_own _ _ _) _) (OwnFrom.and (Own.from (boxed_own _ _ _) _) (ownFrom_pure _ _))) (ownFrom_below (Nat.le_refl _) h)
theorem nearX_own (x : Int) (w : World) (B : Nat) (h : w.heap.size ≤ B) (c : Code) : OwnFrom B (NearX x w c) := fun s X Y row hs hg hr => by
  obtain ⟨⟨pre', p, hb, h1⟩, hB⟩ := hs
  exact ⟨⟨pre', p, boxed_own (w.heap.size + 1) 3 (fun s => .int .i64 (last s)) pre' X Y row hb hg (fun r e => (hr r e).2), h1⟩, ownFrom_below (β := List (Int × Int)) (Nat.le_refl _) h s X Y row hB hg hr⟩

set_option maxRecDepth 100000 in
set_option maxHeartbeats 2000000 in
theorem nearest_in (x : Int) (w : World) : CallsIn Fence.wide 2 Try.prog 16 #[.int .u64 x] w (NumFresh (nst x) w) := by
  refine callsIn_of_wp_marks Try.func16 rfl trivial ?_ rfl
  simp only [Try.ntmps16, List.size_toArray, List.length_cons, List.length_nil, Nat.reduceAdd, Nat.reduceSub, Array.replicate_succ, Array.replicate_zero, List.push_toArray, List.append_toArray, List.nil_append, List.cons_append]
  gi_wp2
  have bX := (Boxed.new w 23 (.int .u64 x)).alloc (.cells #[.int .i64 (-20)] 3)
  have bN := Boxed.new (w.alloc (.cells #[.int .u64 x] 23)) 3 (.int .i64 (-20))
  rw [World.size_alloc] at bN
  have hB0 : Below w.heap.size w ((w.alloc (.cells #[.int .u64 x] 23)).alloc (.cells #[.int .i64 (-20)] 3)) := ((Below.refl _ w).alloc (Nat.le_refl _) _).alloc (by simp) _
  refine wpIn_rangeFunc_ownG (n := 2) rfl (by omega) (gf := 19) (lb := #[]) rfl trivial (enters_of Try.func19 (by kernel_rfl) rfl)
    (weights_stops (2 - 1) (by omega) _) (fun _ _ => trivial) (fun _ _ _ _ _ _ _ _ => trivial) (Below.refl _ _) (fun _ => rfl)
    (NearI x w) (NearX x w) (nearI_own x w _ (by simp; omega)) (nearX_own x w _ (by simp; omega))
    ⟨⟨bX, bN, by simp⟩, hB0⟩
    (fun p => { tmps := #[.int .u64 x, .pointer (some ⟨w.heap.size, 0, none⟩), .int .i64 0, .pointer (some ⟨w.heap.size + 1, 0, none⟩), .int .i64 p.1, .int .u64 p.2, .int .i64 p.1, .int .u64 p.2, undef, undef, undef, undef, undef], defers := [] }) ?assign ?body ?done ?stop
  case assign =>
    intro l p W K hK
    gi_wp2
    exact hK
  case body =>
    rintro l pre p W ⟨⟨hx, hn, hall⟩, hB⟩ _
    have HA := Lib.hid hall
    clear hall
    have hcx := hx.cell
    have hcn := hn.cell
    have hfn := hn.frozen
    by_cases hlt : p.2 < x
    · gi_wp2
      exact ⟨KeepsFrom.refl _ _, ⟨pre, p, hn, rfl, rfl, hlt, HA.out⟩, hB⟩
    · gi_wp2
      refine ⟨(KeepsOthers.setCell _ _ _).from _, trivial, ⟨hx.other (by omega) _, ?_, ?_⟩, hB.setCell (p := ⟨w.heap.size + 1, 0, none⟩) (by simp) _⟩
      · rw [last_snoc]; exact hn.set _
      · intro q hq
        rcases List.mem_append.1 hq with h | h
        · exact HA.out q h
        · obtain rfl : q = p := by simpa using h
          omega
  case done =>
    rintro D xs W hD rfl ⟨⟨hx, hn, hall⟩, hB⟩ hK
    have HA := Lib.hid (near_all x hall)
    clear hall
    have hcn := hn.cell
    gi_wp2
    refine ⟨by simp, .inl ⟨_, _, rfl, run_takeDeferred hK, ?_⟩⟩
    refine ⟨_, results_tmp rfl _ _ _, ?_⟩
    exact numfresh_of HA.out (hB.trans (belowK_b (w := w) (Nat.le_refl _) W D _ _ (by simp at hD; omega) hK rfl rfl))
  case stop =>
    rintro D c pre W hD ⟨k, hk, rfl⟩ ⟨⟨pre', p, hn, rfl, e, hp, hq⟩, hB⟩ hK
    have HA := Lib.hid (near_part x k hk pre' p e hp hq)
    clear e hp hq
    have hcn := hn.cell
    gi_wp2
    refine ⟨by simp, .inl ⟨_, _, rfl, run_takeDeferred hK, ?_⟩⟩
    refine ⟨_, results_tmp rfl _ _ _, ?_⟩
    exact numfresh_of HA.out (hB.trans (belowK_b (w := w) (Nat.le_refl _) W D _ _ (by simp at hD; omega) hK rfl rfl))

theorem nearest (x : Int) (w : World) : Calls Try.prog 16 #[.int .u64 x] w (NumFresh (nst x) w) := callsIn_wide.1 (nearest_in x w)
end Go.Proofs.Yteogjojakocbnaa.Nice
