/- Those groups of which something holds: what All, Kids and Below of package gtree answer. Conditions: none. -/
import Derived.Test.YtanahddlnchioaaGtPath
import Derived.Test.YtanahddlnchioaaGtNew
namespace Go.Proofs.Ytanahddlnchioaa.Gt
open Go.ChangeShapes Go.WideShapes Go.ChangeAt Go.RowKit Hp
set_option linter.unusedVariables false
set_option linter.unusedSimpArgs false

theorem all (w : World) (tb b : Nat) (O : Nat → Prop) (st : St) (h : Tre w tb b O st) (h1 : st.pl.length ≤ 4096) :
    Calls Try.prog 16 #[.pointer (some ⟨tb, 0, none⟩)] w (IsAll (hs st.pl st.pl.length) w) := by
  have A := Lib.hid (Hp.all w b (With O tb) st h.pool h1)
  have c0 := h.cell
  go_enter Try.func16, Try.ntmps16
  go_wp2_with (go_at_call 44; refine A.out.mono ?_; rintro e w1 ⟨v, rfl, ho, hg⟩)
  go_ret
  exact ⟨_, rfl, ho, hg⟩
theorem hs_named {st : St} {n : Nat} {q : Int × Int} (h : q ∈ hs st.pl n) : st.names q.1 q.2 = true := by
  induction n with
  | zero => simp [hs] at h
  | succ n ih =>
    cases hp : st.pl[n]? with
    | none => simp [hs, hp] at h; exact ih h
    | some p =>
      cases hf : p.full
      · rw [hs_free hp hf] at h; exact ih h
      · rw [hs_full hp hf] at h
        rcases List.mem_append.1 h with h | h
        · exact ih h
        · simp at h; subst h; simp [St.names, St.at, hp, hf]
theorem own_base {w : World} {B B' : Nat} {e : TypeId} {size : Nat} {v : Value} {n : Nat} {xs : List Value} (h : w.ownsRow B e size v n xs) (hB : B' ≤ B) : w.ownsRow B' e size v n xs := by
  refine ⟨h.1, ?_⟩
  rcases h.2 with h1 | ⟨g, cap, cur, rfl, h0, hg, h1⟩
  · exact .inl h1
  · exact .inr ⟨g, cap, cur, rfl, Nat.le_trans hB h0, hg, h1⟩
theorem cellsH_at' {T : List (Int × Int)} {j : Nat} {p : Int × Int} (h : T[j]? = some p) : (cellsH T)[j * 2]? = some (.int .i64 p.1) ∧ (cellsH T)[j * 2 + 1]? = some (.int .i64 p.2) := by
  induction T generalizing j with
  | nil => simp at h
  | cons q T ih =>
    cases j with
    | zero => simp at h; subst h; simp [cellsH]
    | succ j =>
      simp at h
      obtain ⟨h1, h2⟩ := ih h
      rw [show (j + 1) * 2 = j * 2 + 2 by omega]
      exact ⟨by simpa [cellsH] using h1, by simpa [cellsH] using h2⟩
def ThoseI (w1 : World) (L : List (Int × Int)) (p : Int × Int → Bool) (left : Nat) (t5 t11 : Value) (wr : World) : Prop :=
  ∃ k : Nat, left + k = L.length ∧ t11 = .int .i64 k ∧ wr.ownsRow w1.heap.size 34 2 t5 ((L.take k).filter p).length (cellsH ((L.take k).filter p)) ∧ Below w1.heap.size w1 wr
theorem filter_take {L : List (Int × Int)} {k : Nat} {q : Int × Int} (p : Int × Int → Bool) (h : L[k]? = some q) : (L.take (k + 1)).filter p = (L.take k).filter p ++ (if p q then [q] else []) := by
  rw [List.take_add_one, h, List.filter_append]
  cases hp : p q <;> simp [hp]
theorem filter_le (L : List (Int × Int)) (k : Nat) (p : Int × Int → Bool) : ((L.take k).filter p).length ≤ k := Nat.le_trans (List.length_filter_le _ _) (by rw [List.length_take]; omega)

set_option maxHeartbeats 4000000 in
theorem thoseBelow (w : World) (tb b x a : Nat) (O : Nat → Prop) (st : St) (p : Int × Int → Bool) (h : Tre w tb b O st) (h1 : st.pl.length ≤ 4096)
    (H : Hid (∀ w' i g, Below w.heap.size w w' → st.names i g = true → Calls Try.prog 55 #[.agg #[.int .i64 i, .int .i64 g], .pointer (some ⟨x, 0, none⟩), .pointer (some ⟨a, 0, none⟩)] w' (IsBool (p (i, g)) w'))) :
    Calls Try.prog 52 #[.pointer (some ⟨tb, 0, none⟩), .func (.func 55) #[] #[.pointer (some ⟨x, 0, none⟩), .pointer (some ⟨a, 0, none⟩)]] w (IsAll ((hs st.pl st.pl.length).filter p) w) := by
  have A := Lib.hid (all w tb b O st h h1)
  have hnm : Hid (∀ q ∈ hs st.pl st.pl.length, st.names q.1 q.2 = true) := fun q hq => hs_named hq
  have hLl := hs_le st.pl st.pl.length
  obtain ⟨i0, hi, hz0, hz1, hz2⟩ := info_parts infoH
  generalize hs st.pl st.pl.length = L at *
  go_enter Try.func52, Try.ntmps52
  go_wp2_with fail
  go_at_call 16; refine A.out.mono ?_; rintro e w1 ⟨v, rfl, ho, hg⟩
  obtain ⟨ao, cp, rfl⟩ : ∃ ao cp, v = .slice ao L.length cp := by
    rcases ho.2 with ⟨e, e2⟩ | ⟨_, _, _, e, _⟩
    · exact ⟨none, 0, by rw [e, e2]⟩
    · exact ⟨_, _, e⟩
  have hs1 := hg.size
  go_wp2_with fail
  go_loopg [5, 11] L.length (fun left t5 t11 wr => ThoseI w1 L p left t5 t11 wr)
  case atStart => exact ⟨0, by omega, rfl, World.ownsRow_nil _ _ _ _, Below.refl _ _⟩
  case round =>
    obtain ⟨k, hk, rfl, hown, hb⟩ := hrel
    by_cases hlt : k < L.length
    · obtain ⟨q, hq⟩ : ∃ q, L[k]? = some q := ⟨_, List.getElem?_eq_getElem hlt⟩
      obtain ⟨g, cp', e', -⟩ := ho.form (by omega)
      cases e'
      obtain ⟨a0, a1⟩ := cellsH_at' hq
      have r0 := ho.cellAt (k * 2) (by omega)
      have r1 := ho.cellAt (k * 2 + 1) (by omega)
      rw [a0] at r0
      rw [a1] at r1
      replace r0 := (hb.cell (World.block_lt_of_cell? w1 _ r0)).trans r0
      replace r1 := (hb.cell (World.block_lt_of_cell? w1 _ r1)).trans r1
      have hsr := hb.size
      have hgr := hg.trans (hb.mono hs1)
      have q1 : (k : Int) < L.length := by omega
      have hl := filter_le L k p
      have ht := filter_take p hq
      have C := Lib.hid (H.out (wr.alloc (.cells #[.int .i64 q.1, .int .i64 q.2] 34)) q.1 q.2 (hgr.alloc hgr.size _) (hnm.out q (List.mem_of_getElem? hq)))
      have hBx := heap_alloc_new wr (.cells #[.int .i64 q.1, .int .i64 q.2] 34)
      obtain ⟨qx, qy⟩ := q
      simp only at *
      cases hp : p (qx, qy)
      · rw [hp] at C ht
        have F : Hid (∀ w3, Below (wr.alloc (.cells #[.int .i64 qx, .int .i64 qy] 34)).heap.size (wr.alloc (.cells #[.int .i64 qx, .int .i64 qy] 34)) w3 → ThoseI w1 L p (gk - 1) u5 (.int .i64 ((k : Int) + 1)) w3) := fun w3 h3 =>
          ⟨k + 1, by omega, by simp, by rw [ht]; simpa using owns_fresh (owns_fresh hown (alloc1 _ _)) h3, hb.trans ((fresh_trans (alloc1 _ _) h3).mono hsr)⟩
        have hgk : 0 < gk := by omega
        clear hown hb ho hk ht
        go_wp2_with (go_at_call 55; refine C.out.mono ?_; rintro e w3 ⟨rfl, h3⟩)
        go_roundg (gk - 1)
        case measure => omega
        case rel => exact F.out _ h3
      · rw [hp] at C ht
        have hgk : 0 < gk := by omega
        have F : Hid (∀ v' w4, w4.ownsRow w1.heap.size 34 2 v' (((L.take k).filter p).length + 1) (cellsH ((L.take k).filter p) ++ [.int .i64 qx, .int .i64 qy]) → Below w1.heap.size w1 w4 → ThoseI w1 L p (gk - 1) v' (.int .i64 ((k : Int) + 1)) w4) := fun v' w4 h4 h5 =>
          ⟨k + 1, by omega, by simp, by rw [ht, cellsH_append]; simpa [cellsH] using h4, h5⟩
        clear ho hk ht
        generalize (L.take k).filter p = D at *
        have hD : D.length ≤ 4096 := by omega
        go_wp2_with (first
          | (go_at_call 55; refine C.out.mono ?_; rintro e w3 ⟨rfl, h3⟩; have hrow := owns_fresh (owns_fresh hown (alloc1 _ _)) h3; obtain ⟨b0, b1, bz⟩ := box2 (heap_fresh hBx h3); have hb3 := hb.trans ((fresh_trans (alloc1 _ _) h3).mono hsr); have hz3 := hb3.size; clear h3)
          | (at_builtin; refine wpList_append_own _ rfl (.tmp 18) (.tmp 20) 35 rfl w1.heap.size 34 i0 _ 2 16 Try.underlying35 hi hz0 hz1 hz2 rfl (by decide) _ _ _ rfl (hrow.alloc _) ⟨w3.heap.size, 0, none⟩ 1 1 [.int .i64 qx, .int .i64 qy] rfl rfl (World.news_of_block (heap_alloc_new w3 _)) (by simp [Value.oneCell']) (by simp only [maxLen]; omega) (by omega) (by simp; omega) ?_; intro v' w4 hown4 hgrow4 _; have hb4 := (hb3.alloc hz3 _).grown hgrow4 (by simp; omega) (fun j hj => (hrow.lt j hj).1)))
        go_roundg (gk - 1)
        case measure => omega
        case rel => exact F.out _ _ hown4 hb4
    · have hx : k = L.length := by omega
      subst hx
      rw [List.take_length] at hown
      replace hown := Lib.hid (own_base hown hs1)
      have hgr := hg.trans (hb.mono hs1)
      clear ho hb
      go_wp2_with fail
      go_ret
      exact ⟨_, rfl, hown.out, hgr⟩

/-- The way up, as far as it is known. -/
def ups (st : St) : Nat → Int → Int → List (Int × Int)
  | 0, _, _ => []
  | n + 1, i, g => if isRoot i g then [] else (st.thing i g, st.tgen i g) :: ups st n (st.thing i g) (st.tgen i g)
theorem Ups.eq {st : St} {i g : Int} {l : List (Int × Int)} (h : Ups st i g l) {n : Nat} (hn : l.length ≤ n) : ups st n i g = l := by
  induction h generalizing n with
  | root h => cases n <;> simp [ups, isRoot_zero]
  | @step i g l hnm hr hu ih =>
    cases n with
    | zero => simp at hn
    | succ n => simp only [ups, hr]; rw [ih (by simpa using hn)]; rfl
def upsOf (st : St) (i g : Int) : List (Int × Int) := ups st 8 i g
theorem Ok.ups {st : St} (h : Ok st) {i g : Int} (hn : st.names i g = true) : Ups st i g (upsOf st i g) ∧ (upsOf st i g).length ≤ 8 := by
  obtain ⟨l, hu, hl⟩ := h.ways i g hn
  rw [show upsOf st i g = l from hu.eq hl]
  exact ⟨hu, hl⟩
theorem below_one (w : World) (tb b x a : Nat) (O : Nat → Prop) (st : St) (i g j k : Int) (h : Tre w tb b O st) (h1 : st.pl.length ≤ 4096) (ho : Ok st) (hn : st.names i g = true) (c1 : w.heap[x]? = some (.cells #[.pointer (some ⟨tb, 0, none⟩)] 24 (0, 0))) (c2 : w.heap[a]? = some (.cells #[.int .i64 j, .int .i64 k] 34 (0, 0))) :
    Calls Try.prog 55 #[.agg #[.int .i64 i, .int .i64 g], .pointer (some ⟨x, 0, none⟩), .pointer (some ⟨a, 0, none⟩)] w (IsBool (st.names i g && (st.names j k && isIn i g j k (upsOf st i g))) w) := by
  have U : Hid _ := fun w h => under w tb b O st i g j k _ h h1 (ho.ups hn).1
  rw [hn, Bool.true_and]
  generalize (st.names j k && isIn i g j k (upsOf st i g)) = r at *
  have d0 := cell_alloc (one1 c1)
  obtain ⟨e0, e1, ez⟩ := box2a c2
  clear hn
  go_enter Try.func55, Try.ntmps55
  go_wp2_with (go_at_call 19; refine (U.out _ (h.fresh (alloc1 _ _))).mono ?_; rintro e w1 ⟨rfl, hg1⟩; have hg := fresh_trans (alloc1 _ _) hg1; clear hg1)
  go_ret
  exact ⟨rfl, hg⟩

/-- Those below a group, and those within it. -/
def under? (st : St) (i g j k : Int) : Bool := st.names i g && (st.names j k && isIn i g j k (upsOf st i g))
theorem below (w : World) (tb b : Nat) (O : Nat → Prop) (st : St) (j k : Int) (h : Tre w tb b O st) (h1 : st.pl.length ≤ 4096) (ho : Ok st) :
    Calls Try.prog 43 #[.pointer (some ⟨tb, 0, none⟩), .agg #[.int .i64 j, .int .i64 k]] w (IsAll ((hs st.pl st.pl.length).filter fun q => under? st q.1 q.2 j k) w) := by
  have hmf : ∀ (fn : Fn) (first cap : Array Value) (w : World), (Instr.makeFunc fn first cap).run Try.prog w = .ok (.func fn first cap) w := fun _ _ _ _ => rfl
  have H : Hid _ := fun W (hx : Below w.heap.size w W) (c1 : W.heap[w.heap.size]? = some (.cells #[.pointer (some ⟨tb, 0, none⟩)] 24 (0, 0))) (c2 : W.heap[w.heap.size + 1]? = some (.cells #[.int .i64 j, .int .i64 k] 34 (0, 0))) => thoseBelow W tb b w.heap.size (w.heap.size + 1) O st (fun q => under? st q.1 q.2 j k) (h.fresh hx) h1 (show Hid _ from fun w' i g hb hn => below_one w' tb b w.heap.size (w.heap.size + 1) O st i g j k ((h.fresh hx).fresh hb) h1 ho hn (heap_fresh c1 hb) (heap_fresh c2 hb))
  go_enter Try.func43, Try.ntmps43
  go_wp2_with fail
  go_at_call 52
  refine (H.out _ (alloc2 _ _ _) ?_ ?_).mono ?_
  · rw [Below.heap_alloc _ _ _ (by simp), heap_alloc_new]
  · rw [show w.heap.size + 1 = (w.alloc (.cells #[.pointer (some ⟨tb, 0, none⟩)] 24)).heap.size by simp, heap_alloc_new]
  rintro e w1 ⟨v, rfl, hown, hg⟩
  have hown2 := Lib.hid (own_base hown (alloc2 w (.cells #[.pointer (some ⟨tb, 0, none⟩)] 24) (.cells #[.int .i64 j, .int .i64 k] 34)).size)
  have hg2 := fresh_trans (alloc2 _ _ _) hg
  clear hown hg
  go_wp2_with fail
  go_ret
  exact ⟨_, rfl, hown2.out, hg2⟩
end Go.Proofs.Ytanahddlnchioaa.Gt
