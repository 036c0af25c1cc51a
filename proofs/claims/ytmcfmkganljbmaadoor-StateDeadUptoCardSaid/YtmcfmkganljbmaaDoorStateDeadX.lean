/- The walk of StateDead where the row ends with one that runs. Conditions: the rows are not too long for a machine. -/
import Derived.Test.YtmcfmkganljbmaaDoorStateDeadW
namespace Go.Proofs.YtmcfmkganljbmaaDoor.State
open Go.ChangeShapes Go.WideShapes Go.ChangeAt Go.RowKit
set_option linter.unusedVariables false
set_option linter.unusedSimpArgs false
set_option maxRecDepth 100000

theorem owns_mk {w : World} {B n : Nat} {e : TypeId} {v : Value} {z : Nat → Int} {x : Int} (h : w.ownsRow B e 1 v (n + 1) (us z n ++ [.int .i64 x])) : w.ownsRow B e 1 v (n + 1) (us (both z n fun _ => x) (n + 1)) := by
  rw [← us_both]; exact h
/-- A slice of the call's own, not nil, appended to from a row that lies in memory, nil or not. -/
theorem wpList_append_copy {P : Program} (w : World) {ops : Array Oper} {rest : List Oper} {o : Oper} {a : Act} {Q : Exit → Act → World → Prop} (hgd : o.guard = none) (s x : Operand) (t : TypeId)
    (ho : o.op = .call { callee := .builtin .append, args := #[s, x], argTypes := #[t, t] })
    (base : Nat) (e : TypeId) (i : TypeInfo) (z : Value) (size bytes : Nat) (ht : P.underlying t = some (.slice e)) (hi : P.info? e = some i) (hz : i.zero = some z)
    (hsize : i.size = size) (hby : i.bytes = bytes) (hzs : z.cells.size = size) (hsz : 0 < size)
    (g0 n c0 : Nat) (xs : List Value) (hs : a.eval s = .slice (some ⟨g0, 0, none⟩) n c0) (hown : w.ownsRow base e size (.slice (some ⟨g0, 0, none⟩) n c0) n xs)
    (b2 : Nat) (u : Value) (m : Nat) (ys : List Value) (hx : a.eval x = u) (hu : w.ownsRow b2 e size u m ys) (h1 : ∀ y ∈ ys, y.oneCell' = true)
    (h63 : n + m ≤ maxLen) (hbytes : (n + m) * bytes ≤ 140737488355328) (hbase : base ≤ w.heap.size) (H : Nat) (hH : w.heap.size = H)
    (h : ∀ g cap w', w'.ownsRow base e size (.slice (some ⟨g, 0, none⟩) (n + m) cap) (n + m) (xs ++ ys) → w.grownBy w' (some g0) → (g = g0 ∨ g = H) → wpList P ops Q rest (a.put o.dst (.slice (some ⟨g, 0, none⟩) (n + m) cap)) w') :
    wpList P ops Q (o :: rest) a w := by
  rcases hu.2 with ⟨rfl, rfl⟩ | ⟨g, cap, cur, rfl, _, hg, _⟩
  · have hys : ys = [] := List.eq_nil_of_length_eq_zero (by simpa using hu.1)
    subst hys
    refine wpList_plain hgd fun K hK' => ?_
    have hrun := run_append_owned_none (P := P) w base t o.type e i size ht hi _ n xs hown
    unfold Oper.wp
    simp [execOp, ho, resolve, invoke, builtin, hs, hx, hrun, Result.andThen]
    exact hK' _ _ (by simpa using h g0 c0 w (by simpa using hown) (World.grownBy.refl _ _) (.inl rfl))
  · refine wpList_append_own_at w hgd s x t ho base e i z size bytes ht hi hz hsize hby hzs hsz _ n xs hs hown ⟨g, 0, none⟩ m cap ys hx hu.1 (hu.cells rfl) h1 h63 hbytes hbase ?_
    intro v' w' k1 k2 k3 k4
    rcases k1.2 with ⟨rfl, _⟩ | ⟨g', cap', cur', rfl, _⟩
    · have := k3.1 rfl
      simp at this
    · refine h g' cap' w' k1 k2 ?_
      rcases k4 with k4 | k4
      · exact .inl (by simpa [Value.ownBlock] using k4)
      · exact .inr (by rw [← hH]; simpa [Value.ownBlock] using k4)
def RunsTo (a k r : Int) (w : World) (e : Ending) (w' : World) : Prop := e = .returned (.tuple #[.int .i64 a, .int .i64 k, .int .i64 r]) ∧ Below w.heap.size w w'
set_option maxHeartbeats 4000000 in
theorem dead_as (v y : Option Addr) (n m cap cp : Nat) (z zy : Nat → Int) (a r : Int) (w : World) (hn : n ≤ 1048576) (hm : m ≤ 1048576) (S : Hid (Calls Tryd.prog 6 #[] w (Yes w)))
    (R1 : Hid (∀ w', Below w.heap.size w w' → Calls Tryd.prog 7 #[.slice v n cap] w' (RunsTo 3 n 0 w')))
    (R2 : Hid (∀ w' g c, Below w.heap.size w w' → w'.ownsRow w.heap.size 3 1 (.slice (some ⟨g, 0, none⟩) (n + 1) c) (n + 1) (us (both z n fun _ => 10) (n + 1)) → Calls Tryd.prog 7 #[.slice (some ⟨g, 0, none⟩) (n + 1) c] w' (RunsTo 4 ((n : Int) + 1) 0 w')))
    (R3 : Hid (∀ w' g c, Below w.heap.size w w' → w'.ownsRow w.heap.size 3 1 (.slice (some ⟨g, 0, none⟩) (n + 1 + m) c) (n + 1 + m) (us (both (both z n fun _ => 10) (n + 1) zy) (n + 1 + m)) → Calls Tryd.prog 7 #[.slice (some ⟨g, 0, none⟩) (n + 1 + m) c] w' (RunsTo a ((n : Int) + 1) r w')))
    (HN : Hid (v = none → n = 0 ∧ cap = 0)) (HM : Hid (y = none → m = 0 ∧ cp = 0)) (CC : Hid (∀ w', Below w.heap.size w w' → Lies v n z w')) (CY : Hid (∀ w', Below w.heap.size w w' → Lies y m zy w'))
    (h : m = 0 ∧ a = 4 ∧ r = 0 ∨ 0 < m ∧ a = 0 ∧ ¬ r = 0) :
    Calls Tryd.prog 3 #[.slice v n cap, .slice y m cp] w (Yes w) := by
  have hg := Below.refl w.heap.size w
  obtain ⟨i0, hi, hz0, hz1, hz2⟩ := info_parts infoL
  unfold RunsTo at R1 R2 R3
  have q : (((m : Int) == 0) = true ∧ a = 4 ∧ r = 0) ∨ (((m : Int) == 0) = false ∧ a = 0 ∧ (r == 0) = false ∧ (r != 0) = true) := by
    rcases h with ⟨h1, h2, h3⟩ | ⟨h1, h2, h3⟩
    · exact .inl ⟨by simpa using h1, h2, h3⟩
    · exact .inr ⟨by simp; omega, h2, by simpa using h3, by simpa using h3⟩
  clear h
  rcases q with ⟨q1, rfl, rfl⟩ | ⟨q1, rfl, q2, q3⟩
  all_goals
    go_enter Tryd.func3, Tryd.ntmps3
    go_wp2_with (first
      | (go_at_call 6; refine S.out.mono ?_; rintro e w1 ⟨rfl, hg1⟩; replace hg := fresh_trans hg hg1; clear hg1)
      | (go_at_call 7; (with_reducible refine (R1.out _ hg).mono ?_); rintro e w2 ⟨rfl, hg1⟩; replace hg := fresh_trans hg hg1; clear hg1)
      | (at_builtin; refine wpList_append_in _ rfl (.tmp 39) (.tmp 40) 22 rfl w.heap.size 3 i0 _ 8 Tryd.underlying22 hi hz0 hz1 hz2 rfl w2.heap.size 0 0 [] rfl (made rfl hg.size) v n cap (us z n) rfl (us_length z n) HN.out (CC.out _ (hg.alloc hg.size _)).src (us_one z n) (by simp only [maxLen]; omega) (by omega) (by have := hg.size; (try simp); omega) (w2.heap.size + 1) (by simp) ?_; intro g1 c1 w3 own1 grow1 at1; simp only [Nat.zero_add, List.nil_append] at own1 ⊢; replace hg := (hg.alloc hg.size _).grown grow1 (by have := hg.size; (try simp); omega) (by intro k hk; have := hg.size; (try simp [Value.ownBlock] at hk); omega); clear grow1)
      | (at_builtin; (refine wpList_append_lies _ rfl (.tmp 41) (.tmp 42) 22 rfl w.heap.size 3 i0 _ 1 8 Tryd.underlying22 hi hz0 hz1 hz2 rfl (by decide) (.slice (some ⟨g1, 0, none⟩) n c1) n (us z n) rfl (own1.alloc _) ⟨w3.heap.size, 0, none⟩ 1 1 [.int .i64 10] rfl rfl (World.news_of_block (heap_alloc_new w3 _)) (by simp [Value.oneCell']) (by decide) (by simp only [maxLen]; omega) (by omega) (by have := hg.size; (try simp); omega) (w3.heap.size + 1) (by simp) ?_; intro g2 c2 w4 own2 grow2 at2 lt2; replace hg := (hg.alloc hg.size _).grown grow2 (by have := hg.size; (try simp); omega) (by intro k hk; have := (own1.lt g1 rfl).1; (try simp [Value.ownBlock] at hk); omega); clear grow2; replace own2 := owns_mk own2))
      | (go_at_call 7; (with_reducible refine (R2.out _ _ _ hg own2).mono ?_); rintro e w5 ⟨rfl, hg1⟩; replace own2 := owns_fresh own2 hg1; replace hg := fresh_trans hg hg1; clear hg1)
      | (at_builtin; (refine wpList_append_copy _ rfl (.tmp 50) (.tmp 51) 22 rfl w.heap.size 3 i0 _ 1 8 Tryd.underlying22 hi hz0 hz1 hz2 rfl (by decide) w5.heap.size 0 0 [] rfl (made rfl hg.size) w.heap.size _ (n + 1) _ rfl (own2.alloc _) (us_one _ _) (by simp only [maxLen]; omega) (by omega) (by have := hg.size; (try simp); omega) (w5.heap.size + 1) (by simp) ?_; intro g3 c3 w6 own3 grow3 at3; simp only [Nat.zero_add, List.nil_append] at own3 ⊢; replace hg := (hg.alloc hg.size _).grown grow3 (by have := hg.size; (try simp); omega) (by intro k hk; have := hg.size; (try simp at hk); omega); clear grow3))
      | (at_builtin; (refine wpList_append_in _ rfl (.tmp 53) (.tmp 54) 22 rfl w.heap.size 3 i0 _ 8 Tryd.underlying22 hi hz0 hz1 hz2 rfl g3 (n + 1) c3 _ rfl own3 y m cp (us zy m) rfl (us_length zy m) HM.out (CY.out _ hg).src (us_one zy m) (by simp only [maxLen]; omega) (by omega) hg.size w6.heap.size rfl ?_; intro g4 c4 w7 own4 grow4 at4; rw [us_both] at own4; replace hg := hg.grown grow4 hg.size (by intro k hk; have := (own3.lt g3 rfl).1; (try simp at hk); omega); clear grow4))
      | (go_at_call 7; (with_reducible refine (R3.out _ _ _ hg own4).mono ?_); rintro e w8 ⟨rfl, hg1⟩; replace hg := fresh_trans hg hg1; clear hg1))
    go_ret
    exact yes_of (by simp [q1]) hg

theorem deadLaw (v y : Option Addr) (n m cap cp : Nat) (z zy : Nat → Int) (w : World) (hn : n ≤ 1048576) (hm : m ≤ 1048576) (hT : Tab w) (HN : v = none → n = 0 ∧ cap = 0) (HM : y = none → m = 0 ∧ cp = 0) (hc : Lies v n z w) (hy : Lies y m zy w) :
    Calls Tryd.prog 3 #[.slice v n cap, .slice y m cp] w (Yes w) := by
  by_cases h : (script z n).2.2 = 0 ∧ (script z n).1 = 3
  · obtain ⟨h0, h3⟩ := h
    have d1 := dead (x := both z n fun _ => 10) h0 h3 rfl
    have R1 := Lib.hid (fun w' (h : Below w.heap.size w w') => runs_to v n cap z w' (by omega) (hT.fresh h) (hc.fresh h))
    unfold IsRun at R1
    rw [h0, h3, (script_ok z n).1 h0] at R1
    have R2 : Hid (∀ w' g c, Below w.heap.size w w' → w'.ownsRow w.heap.size 3 1 (.slice (some ⟨g, 0, none⟩) (n + 1) c) (n + 1) (us (both z n fun _ => 10) (n + 1)) → Calls Tryd.prog 7 #[.slice (some ⟨g, 0, none⟩) (n + 1) c] w' (RunsTo 4 ((n : Int) + 1) 0 w')) := Lib.hid fun w' g c h own => by
      have := runs_to (some ⟨g, 0, none⟩) (n + 1) c (both z n fun _ => 10) w' (by omega) (hT.fresh h) (lies_own own)
      unfold IsRun at this
      rw [d1] at this
      exact this
    have R3 : Hid (∀ w' g c, Below w.heap.size w w' → w'.ownsRow w.heap.size 3 1 (.slice (some ⟨g, 0, none⟩) (n + 1 + m) c) (n + 1 + m) (us (both (both z n fun _ => 10) (n + 1) zy) (n + 1 + m)) → Calls Tryd.prog 7 #[.slice (some ⟨g, 0, none⟩) (n + 1 + m) c] w' (RunsTo (script (both (both z n fun _ => 10) (n + 1) zy) (n + 1 + m)).1 ((n : Int) + 1) (script (both (both z n fun _ => 10) (n + 1) zy) (n + 1 + m)).2.2 w')) := Lib.hid fun w' g c h own => by
      have := runs_to (some ⟨g, 0, none⟩) (n + 1 + m) c (both (both z n fun _ => 10) (n + 1) zy) w' (by omega) (hT.fresh h) (lies_own own)
      unfold IsRun at this
      have e : (script (both (both z n fun _ => 10) (n + 1) zy) (n + 1 + m)).2.1 = (n : Int) + 1 := by
        by_cases hm0 : m = 0
        · subst hm0
          rw [Nat.add_zero, both_left, d1]
        · exact (dead_more d1 (by omega)).2.1
      rw [e] at this
      exact this
    refine dead_as v y n m cap cp z zy _ _ w hn hm (Lib.hid (shown w hT)) R1 R2 R3 (Lib.hid HN) (Lib.hid HM) (Lib.hid fun w' h => hc.fresh h) (Lib.hid fun w' h => hy.fresh h) ?_
    by_cases hm0 : m = 0
    · subst hm0
      refine .inl ⟨rfl, ?_, ?_⟩ <;> rw [Nat.add_zero, both_left, d1]
    · exact .inr ⟨by omega, (dead_more d1 (by omega)).1, (dead_more d1 (by omega)).2.2⟩
  · exact dead_no v y n m cap cp z w hn hT hc h
end Go.Proofs.YtmcfmkganljbmaaDoor.State
