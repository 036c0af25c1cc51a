/- Those within a group: what Kids of package gtree answers. Conditions: none. -/
import Derived.Test.YtanahddlnchioaaGtThose
namespace Go.Proofs.Ytanahddlnchioaa.Gt
open Go.ChangeShapes Go.WideShapes Go.ChangeAt Go.RowKit Hp
set_option linter.unusedVariables false
set_option linter.unusedSimpArgs false

set_option maxHeartbeats 4000000 in
theorem thoseKids (w : World) (tb b x a : Nat) (O : Nat → Prop) (st : St) (p : Int × Int → Bool) (h : Tre w tb b O st) (h1 : st.pl.length ≤ 4096)
    (H : Hid (∀ w' i g, Below w.heap.size w w' → st.names i g = true → Calls Try.prog 53 #[.agg #[.int .i64 i, .int .i64 g], .pointer (some ⟨x, 0, none⟩), .pointer (some ⟨a, 0, none⟩)] w' (IsBool (p (i, g)) w'))) :
    Calls Try.prog 52 #[.pointer (some ⟨tb, 0, none⟩), .func (.func 53) #[] #[.pointer (some ⟨x, 0, none⟩), .pointer (some ⟨a, 0, none⟩)]] w (IsAll ((hs st.pl st.pl.length).filter p) w) := by
  have A := Lib.hid (all w tb b O st h h1)
  have hnm : Hid (∀ q ∈ hs st.pl st.pl.length, st.names q.1 q.2 = true) := fun q hq => hs_named hq
  have hLl := hs_le st.pl st.pl.length
  obtain ⟨i0, hi, hz0, hz1, hz2⟩ := info_parts infoH
  generalize hs st.pl st.pl.length = L at *
  go_enter Try.func52, Try.ntmps52
  go_wp2_with fail
  go_at_call 16; refine A.out.mono ?_; rintro e w1 ⟨v, rfl, ho, hg⟩
  obtain ⟨ao, cp, rfl⟩ : ∃ ao cp, v = .slice ao L.length cp := by
    rcases ho.2 with ⟨e, e2⟩ | ⟨_, _, _, e, _⟩
    · exact ⟨none, 0, by rw [e, e2]⟩
    · exact ⟨_, _, e⟩
  have hs1 := hg.size
  go_wp2_with fail
  go_loopg [5, 11] L.length (fun left t5 t11 wr => ThoseI w1 L p left t5 t11 wr)
  case atStart => exact ⟨0, by omega, rfl, World.ownsRow_nil _ _ _ _, Below.refl _ _⟩
  case round =>
    obtain ⟨k, hk, rfl, hown, hb⟩ := hrel
    by_cases hlt : k < L.length
    · obtain ⟨q, hq⟩ : ∃ q, L[k]? = some q := ⟨_, List.getElem?_eq_getElem hlt⟩
      obtain ⟨g, cp', e', -⟩ := ho.form (by omega)
      cases e'
      obtain ⟨a0, a1⟩ := cellsH_at' hq
      have r0 := ho.cellAt (k * 2) (by omega)
      have r1 := ho.cellAt (k * 2 + 1) (by omega)
      rw [a0] at r0
      rw [a1] at r1
      replace r0 := (hb.cell (World.block_lt_of_cell? w1 _ r0)).trans r0
      replace r1 := (hb.cell (World.block_lt_of_cell? w1 _ r1)).trans r1
      have hsr := hb.size
      have hgr := hg.trans (hb.mono hs1)
      have q1 : (k : Int) < L.length := by omega
      have hl := filter_le L k p
      have ht := filter_take p hq
      have C := Lib.hid (H.out (wr.alloc (.cells #[.int .i64 q.1, .int .i64 q.2] 34)) q.1 q.2 (hgr.alloc hgr.size _) (hnm.out q (List.mem_of_getElem? hq)))
      have hBx := heap_alloc_new wr (.cells #[.int .i64 q.1, .int .i64 q.2] 34)
      obtain ⟨qx, qy⟩ := q
      simp only at *
      cases hp : p (qx, qy)
      · rw [hp] at C ht
        have F : Hid (∀ w3, Below (wr.alloc (.cells #[.int .i64 qx, .int .i64 qy] 34)).heap.size (wr.alloc (.cells #[.int .i64 qx, .int .i64 qy] 34)) w3 → ThoseI w1 L p (gk - 1) u5 (.int .i64 ((k : Int) + 1)) w3) := fun w3 h3 =>
          ⟨k + 1, by omega, by simp, by rw [ht]; simpa using owns_fresh (owns_fresh hown (alloc1 _ _)) h3, hb.trans ((fresh_trans (alloc1 _ _) h3).mono hsr)⟩
        have hgk : 0 < gk := by omega
        clear hown hb ho hk ht
        go_wp2_with (go_at_call 53; refine C.out.mono ?_; rintro e w3 ⟨rfl, h3⟩)
        go_roundg (gk - 1)
        case measure => omega
        case rel => exact F.out _ h3
      · rw [hp] at C ht
        have hgk : 0 < gk := by omega
        have F : Hid (∀ v' w4, w4.ownsRow w1.heap.size 34 2 v' (((L.take k).filter p).length + 1) (cellsH ((L.take k).filter p) ++ [.int .i64 qx, .int .i64 qy]) → Below w1.heap.size w1 w4 → ThoseI w1 L p (gk - 1) v' (.int .i64 ((k : Int) + 1)) w4) := fun v' w4 h4 h5 =>
          ⟨k + 1, by omega, by simp, by rw [ht, cellsH_append]; simpa [cellsH] using h4, h5⟩
        clear ho hk ht
        generalize (L.take k).filter p = D at *
        have hD : D.length ≤ 4096 := by omega
        go_wp2_with (first
          | (go_at_call 53; refine C.out.mono ?_; rintro e w3 ⟨rfl, h3⟩; have hrow := owns_fresh (owns_fresh hown (alloc1 _ _)) h3; obtain ⟨b0, b1, bz⟩ := box2 (heap_fresh hBx h3); have hb3 := hb.trans ((fresh_trans (alloc1 _ _) h3).mono hsr); have hz3 := hb3.size; clear h3)
          | (at_builtin; refine wpList_append_own _ rfl (.tmp 18) (.tmp 20) 35 rfl w1.heap.size 34 i0 _ 2 16 Try.underlying35 hi hz0 hz1 hz2 rfl (by decide) _ _ _ rfl (hrow.alloc _) ⟨w3.heap.size, 0, none⟩ 1 1 [.int .i64 qx, .int .i64 qy] rfl rfl (World.news_of_block (heap_alloc_new w3 _)) (by simp [Value.oneCell']) (by simp only [maxLen]; omega) (by omega) (by simp; omega) ?_; intro v' w4 hown4 hgrow4 _; have hb4 := (hb3.alloc hz3 _).grown hgrow4 (by simp; omega) (fun j hj => (hrow.lt j hj).1)))
        go_roundg (gk - 1)
        case measure => omega
        case rel => exact F.out _ _ hown4 hb4
    · have hx : k = L.length := by omega
      subst hx
      rw [List.take_length] at hown
      replace hown := Lib.hid (own_base hown hs1)
      have hgr := hg.trans (hb.mono hs1)
      clear ho hb
      go_wp2_with fail
      go_ret
      exact ⟨_, rfl, hown.out, hgr⟩

def kid? (st : St) (i g j k : Int) : Bool := !isRoot i g && (st.thing i g == j && st.tgen i g == k)
set_option maxHeartbeats 1000000 in
theorem kid_root (w : World) (tb b x a : Nat) (O : Nat → Prop) (st : St) (j k : Int) (h : Tre w tb b O st) (h1 : st.pl.length ≤ 4096) (hn : st.names 0 0 = true) (c1 : w.heap[x]? = some (.cells #[.pointer (some ⟨tb, 0, none⟩)] 24 (0, 0))) (c2 : w.heap[a]? = some (.cells #[.int .i64 j, .int .i64 k] 34 (0, 0))) :
    Calls Try.prog 53 #[.agg #[.int .i64 0, .int .i64 0], .pointer (some ⟨x, 0, none⟩), .pointer (some ⟨a, 0, none⟩)] w (IsBool false w) := by
  have P : Hid _ := fun w h => parent_root w tb b O st h h1 hn
  clear hn
  have d0 := cell_alloc (one1 c1)
  obtain ⟨e0, e1, ez⟩ := box2a c2
  go_enter Try.func53, Try.ntmps53
  go_wp2_with (go_at_call 40; refine (P.out _ (h.fresh (alloc1 _ _))).mono ?_; rintro e w1 ⟨rfl, hg1⟩; have hg := fresh_trans (alloc1 _ _) hg1; clear hg1)
  go_ret
  exact ⟨rfl, hg.alloc hg.size _⟩
set_option maxHeartbeats 1000000 in
theorem kid_some (w : World) (tb b x a : Nat) (O : Nat → Prop) (st : St) (i g j k : Int) (h : Tre w tb b O st) (h1 : st.pl.length ≤ 4096) (hn : st.names i g = true) (hr : isRoot i g = false) (c1 : w.heap[x]? = some (.cells #[.pointer (some ⟨tb, 0, none⟩)] 24 (0, 0))) (c2 : w.heap[a]? = some (.cells #[.int .i64 j, .int .i64 k] 34 (0, 0))) :
    Calls Try.prog 53 #[.agg #[.int .i64 i, .int .i64 g], .pointer (some ⟨x, 0, none⟩), .pointer (some ⟨a, 0, none⟩)] w (IsBool (st.thing i g == j && st.tgen i g == k) w) := by
  have P : Hid _ := fun w h => parent_some w tb b O st i g h h1 hn hr
  clear hn hr
  have d0 := cell_alloc (one1 c1)
  generalize st.thing i g = p at *
  generalize st.tgen i g = q at *
  cases hp : (p == j) <;> cases hq : (q == k)
  all_goals
    have hp' := hp
    have hq' := hq
    simp only [beq_iff_eq, beq_eq_false_iff_ne, ne_eq] at hp' hq'
    go_enter Try.func53, Try.ntmps53
    go_wp2_with (go_at_call 40; refine (P.out _ (h.fresh (alloc1 _ _))).mono ?_; rintro e w1 ⟨rfl, hg1⟩; have hg := fresh_trans (alloc1 _ _) hg1; have ca := heap_fresh c2 hg; obtain ⟨f0, f1, fz⟩ := box2a ca; clear hg1)
    go_ret
    exact ⟨rfl, hg.alloc hg.size _⟩
theorem kid_one (w : World) (tb b x a : Nat) (O : Nat → Prop) (st : St) (i g j k : Int) (h : Tre w tb b O st) (h1 : st.pl.length ≤ 4096) (ho : Ok st) (hn : st.names i g = true) (c1 : w.heap[x]? = some (.cells #[.pointer (some ⟨tb, 0, none⟩)] 24 (0, 0))) (c2 : w.heap[a]? = some (.cells #[.int .i64 j, .int .i64 k] 34 (0, 0))) :
    Calls Try.prog 53 #[.agg #[.int .i64 i, .int .i64 g], .pointer (some ⟨x, 0, none⟩), .pointer (some ⟨a, 0, none⟩)] w (IsBool (kid? st i g j k) w) := by
  unfold kid?
  cases hr : isRoot i g
  · exact kid_some w tb b x a O st i g j k h h1 hn hr c1 c2
  · obtain ⟨rfl, rfl⟩ := isRoot_eq hr
    exact kid_root w tb b x a O st j k h h1 ho.root c1 c2
theorem kids (w : World) (tb b : Nat) (O : Nat → Prop) (st : St) (j k : Int) (h : Tre w tb b O st) (h1 : st.pl.length ≤ 4096) (ho : Ok st) :
    Calls Try.prog 29 #[.pointer (some ⟨tb, 0, none⟩), .agg #[.int .i64 j, .int .i64 k]] w (IsAll ((hs st.pl st.pl.length).filter fun q => kid? st q.1 q.2 j k) w) := by
  have hmf : ∀ (fn : Fn) (first cap : Array Value) (w : World), (Instr.makeFunc fn first cap).run Try.prog w = .ok (.func fn first cap) w := fun _ _ _ _ => rfl
  have H : Hid _ := fun W (hx : Below w.heap.size w W) (c1 : W.heap[w.heap.size]? = some (.cells #[.pointer (some ⟨tb, 0, none⟩)] 24 (0, 0))) (c2 : W.heap[w.heap.size + 1]? = some (.cells #[.int .i64 j, .int .i64 k] 34 (0, 0))) => thoseKids W tb b w.heap.size (w.heap.size + 1) O st (fun q => kid? st q.1 q.2 j k) (h.fresh hx) h1 (show Hid _ from fun w' i g hb hn => kid_one w' tb b w.heap.size (w.heap.size + 1) O st i g j k ((h.fresh hx).fresh hb) h1 ho hn (heap_fresh c1 hb) (heap_fresh c2 hb))
  go_enter Try.func29, Try.ntmps29
  go_wp2_with fail
  go_at_call 52
  refine (H.out _ (alloc2 _ _ _) ?_ ?_).mono ?_
  · rw [Below.heap_alloc _ _ _ (by simp), heap_alloc_new]
  · rw [show w.heap.size + 1 = (w.alloc (.cells #[.pointer (some ⟨tb, 0, none⟩)] 24)).heap.size by simp, heap_alloc_new]
  rintro e w1 ⟨v, rfl, hown, hg⟩
  have hown2 := Lib.hid (own_base hown (alloc2 w (.cells #[.pointer (some ⟨tb, 0, none⟩)] 24) (.cells #[.int .i64 j, .int .i64 k] 34)).size)
  have hg2 := fresh_trans (alloc2 _ _ _) hg
  clear hown hg
  go_wp2_with fail
  go_ret
  exact ⟨_, rfl, hown2.out, hg2⟩
end Go.Proofs.Ytanahddlnchioaa.Gt
