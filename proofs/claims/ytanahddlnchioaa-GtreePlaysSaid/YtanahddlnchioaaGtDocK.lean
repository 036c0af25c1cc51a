/- What Kids of the document's tree answers. Conditions: as each fact states them. -/
import Derived.Test.YtanahddlnchioaaGtDocS
import Derived.Test.YtanahddlnchioaaGtKids
namespace Go.Proofs.Ytanahddlnchioaa.Gt
open Go.ChangeShapes Go.WideShapes Go.ChangeAt Go.RowKit Hp
set_option linter.unusedVariables false
set_option linter.unusedSimpArgs false
set_option maxRecDepth 100000

/-- The first n of those for whom P holds, told in new memory. -/
def PickI (W : World) (A : List (Int × Int)) (P : Int × Int → Bool) (left : Nat) (t6 t7 : Value) (wr : World) : Prop :=
  ∃ (n : Nat) (v0 : Value), v0 = t6 ∧ n ≤ A.length ∧ left = A.length - n ∧ t7 = .int .i64 n ∧ wr.ownsRow W.heap.size 34 2 v0 ((A.take n).filter P).length (Arena.cellsH ((A.take n).filter P)) ∧ Below W.heap.size W wr
theorem pick_no {A : List (Int × Int)} {P : Int × Int → Bool} {n : Nat} {q : Int × Int} (h : A[n]? = some q) (hp : P q = false) : (A.take (n + 1)).filter P = (A.take n).filter P := by
  rw [List.take_add_one, h, List.filter_append]
  simp [hp]
theorem pick_yes {A : List (Int × Int)} {P : Int × Int → Bool} {n : Nat} {q : Int × Int} (h : A[n]? = some q) (hp : P q = true) : (A.take (n + 1)).filter P = (A.take n).filter P ++ [q] := by
  rw [List.take_add_one, h, List.filter_append]
  simp [hp]
theorem kid_doc {st : St} {i g j k : Int} (ho : Ok st) (hq : st.names i g = true) : kid? st i g j k = (st.names j k && (within st i g == j)) := by
  obtain ⟨l, hu, _⟩ := ho.ways i g hq
  cases l with
  | nil =>
    obtain ⟨rfl, rfl, _⟩ := hu.nil
    have : kid? st 0 0 j k = false := by simp [kid?, isRoot_zero]
    rw [this]
    cases hj : st.names j k
    · rfl
    · obtain ⟨kk, _, e, _⟩ := St.named hj
      simp [within]
      omega
  | cons p l =>
    obtain ⟨u0, u1, u2, u3⟩ := hu.not_zero
    have hr : isRoot i g = false := hu.cons.2.1
    have hw : within st i g = st.thing i g := if_neg (by omega)
    rw [hw]
    simp only [kid?, hr, Bool.not_false, Bool.true_and]
    cases hj : st.names j k
    · simp only [Bool.false_and, Bool.and_eq_false_iff, beq_eq_false_iff_ne, ne_eq]
      by_cases h1 : st.thing i g = j
      · refine .inr fun h2 => ?_
        have := u2.named
        rw [h1, h2, hj] at this
        cases this
      · exact .inl h1
    · simp only [Bool.true_and]
      by_cases h1 : st.thing i g = j
      · have := u2.named
        rw [h1] at this
        simp [h1, one_gen this hj]
      · simp [h1]
set_option maxHeartbeats 8000000 in
theorem refKids (w : World) (B : Nat) (r : Int) (v1 v2 v3 v4 : Value) (st : St) (j k : Int) (h : Arena.RefAt B v1 v2 v3 v4 (doc st) w) (h1 : st.pl.length ≤ 4096) (ho : Ok st) :
    Calls Try.prog 31 #[.agg #[.int .i64 r, v1, v2, v3, v4], .agg #[.int .i64 j, .int .i64 k]] w (Arena.IsAll ((hs st.pl st.pl.length).filter fun q => kid? st q.1 q.2 j k) w) := by
  obtain ⟨i0, hi, hz0, hz1, hz2⟩ := info_parts Arena.infoH
  have PB := box2' w r v1 v2 v3 v4 j k
  have N := Lib.hid (fun W (hB : Box2 w r v1 v2 v3 v4 j k W) => Arena.refNames W B r v1 v2 v3 v4 (doc st) j k (h.fresh hB.b) (by rw [doc_len]; exact h1))
  have AL := Lib.hid (fun W (hB : Box2 w r v1 v2 v3 v4 j k W) => Arena.refAll W B r v1 v2 v3 v4 (doc st) (h.fresh hB.b) (by rw [doc_len]; exact h1))
  rw [doc_names] at N
  have hh : Arena.hs (doc st).pl (doc st).pl.length = hs st.pl st.pl.length := by rw [doc_len]; exact doc_hs _ _
  rw [hh] at AL
  have HN : Hid (∀ q ∈ hs st.pl st.pl.length, st.names q.1 q.2 = true) := fun q hq => hs_named hq
  have hAl : (hs st.pl st.pl.length).length ≤ 4096 := Nat.le_trans (hs_le _ _) h1
  have hH := Lib.hid (fun W (hB : Box2 w r v1 v2 v3 v4 j k W) => h.fresh hB.b)
  have hlen := Lib.hid (doc_len st)
  have KD := Lib.hid (fun i g hq => kid_doc (st := st) (i := i) (g := g) (j := j) (k := k) ho hq)
  obtain ⟨P, hP⟩ : ∃ P : Int × Int → Bool, (fun q => kid? st q.1 q.2 j k) = P := ⟨_, rfl⟩
  have HP : Hid (∀ q, P q = kid? st q.1 q.2 j k) := fun q => by rw [← hP]
  rw [hP]
  generalize hs st.pl st.pl.length = A at *
  unfold treO hanO at PB
  clear h ho hh hP
  go_enter Try.func31, Try.ntmps31
  go_upto_region 1 with fail
  generalize (w.alloc _).alloc _ = W at *
  obtain ⟨⟨b0, b1, b2, b3, b4, bz⟩, ⟨x0, x1, xz⟩⟩ := PB.cells
  go_upto_region 2 with (go_at_call 17; refine (AL.out _ PB).mono ?_; rintro e w1 ⟨va, rfl, hA, hg1⟩)
  have P1 := PB.fresh hg1
  clear b0 b1 b2 b3 b4 bz x0 x1 xz
  obtain ⟨ao, ca, rfl⟩ := Arena.owns_shape hA
  have HA := Lib.hid hA
  have J0 : Hid (PickI w1 A P A.length (.slice none 0 0) (.int .i64 0) w1) := ⟨0, _, rfl, by omega, rfl, rfl, World.ownsRow_nil _ _ _ _, Below.refl _ w1⟩
  clear AL PB hA hg1
  go_wp2_with fail
  go_loopg [6, 7] A.length (fun left t6 t7 wr => PickI w1 A P left t6 t7 wr)
  case atStart => exact J0.out
  case round =>
    clear J0
    obtain ⟨n, v0, rfl, hn, rfl, rfl, hown, hb⟩ := hrel
    have P2 := P1.fresh hb
    by_cases hlt : n < A.length
    · obtain ⟨q, hq⟩ : ∃ q, A[n]? = some q := ⟨_, List.getElem?_eq_getElem hlt⟩
      have hqn := HN.out q (List.mem_of_getElem? hq)
      have hkd := (HP.out q).trans (KD.out q.1 q.2 hqn)
      obtain ⟨kk, hkk, hkl, hv⟩ := doc_val hqn
      obtain ⟨qi, qg⟩ := q
      simp only at hkk hkd hv hqn
      subst hkk
      obtain ⟨gA, cA, eA, _, _⟩ := Arena.told_cell HA.out hq
      cases eA
      obtain ⟨gb, cp, hsl, _, _⟩ := Arena.row_cell (hH.out _ P2).o1 hv
      rw [hlen.out] at hsl
      subst hsl
      have HC : Hid (∀ w', Below w1.heap.size w1 w' → (w'.cell? ⟨w.heap.size, 0, none⟩ = some (.int .i64 r) ∧ w'.cell? ⟨w.heap.size, 1, none⟩ = some (.slice (some ⟨gb, 0, none⟩) st.pl.length cp) ∧ w'.cell? ⟨w.heap.size, 2, none⟩ = some v2 ∧ w'.cell? ⟨w.heap.size, 3, none⟩ = some v3 ∧ w'.cell? ⟨w.heap.size, 4, none⟩ = some v4 ∧ w'.cell? ⟨w.heap.size + 1, 0, none⟩ = some (.int .i64 j) ∧ w'.cell? ⟨w.heap.size + 1, 1, none⟩ = some (.int .i64 k) ∧ w'.cell? ⟨gA, n * 2, none⟩ = some (.int .i64 (kk : Int)) ∧ w'.cell? ⟨gb, kk, none⟩ = some (.int .i64 (within st kk qg))) ∧ w'.cell? ⟨gA, n * 2 + 1, none⟩ = some (.int .i64 qg)) := fun w' hg => by
        have PX := P1.fresh hg
        obtain ⟨⟨a0, a1, a2, a3, a4, _⟩, ⟨e0, e1, _⟩⟩ := PX.cells
        obtain ⟨gA', cA', eA', c0, c1⟩ := Arena.told_cell (Arena.owns_fresh HA.out hg) hq
        cases eA'
        obtain ⟨gb', cp', hsl', d0, _⟩ := Arena.row_cell (hH.out _ PX).o1 hv
        rw [hlen.out] at hsl'
        cases hsl'
        exact ⟨⟨a0, a1, a2, a3, a4, e0, e1, c0, d0⟩, c1⟩
      have NO : Hid (P ((kk : Int), qg) = false → ∀ w4, Below w1.heap.size w1 w4 → w4.ownsRow w1.heap.size 34 2 v0 ((A.take n).filter P).length (Arena.cellsH ((A.take n).filter P)) → PickI w1 A P (A.length - (n + 1)) v0 (.int .i64 ((n : Int) + 1)) w4) := fun hp w4 hg ho => by
        refine ⟨n + 1, v0, rfl, by omega, rfl, by go_num, ?_, hg⟩
        rw [pick_no hq hp]; exact ho
      have YES : Hid (P ((kk : Int), qg) = true → ∀ v' w4, Below w1.heap.size w1 w4 → w4.ownsRow w1.heap.size 34 2 v' (((A.take n).filter P).length + 1) (Arena.cellsH ((A.take n).filter P) ++ [.int .i64 (kk : Int), .int .i64 qg]) → PickI w1 A P (A.length - (n + 1)) v' (.int .i64 ((n : Int) + 1)) w4) := fun hp v' w4 hg ho => by
        refine ⟨n + 1, v', rfl, by omega, rfl, by go_num, ?_, hg⟩
        rw [pick_yes hq hp, List.length_append, Arena.cellsH_append]; exact ho
      have hPl : ((A.take n).filter P).length ≤ 4096 := Nat.le_trans (List.length_filter_le _ _) (by rw [List.length_take]; omega)
      have s1 : (n : Int) < A.length := by omega
      have q1 : (kk : Int) < st.pl.length := by omega
      have q3 : (st.pl.length : Int) ≤ 4096 := by omega
      have q4 : (A.length : Int) ≤ 4096 := by omega
      have hgd := (Below.refl wr.heap.size wr).drew
      have HN1 := Lib.hid (fun w4 (hg4 : Below wr.heap.size wr w4) => HC.out _ (hb.trans (hg4.mono hb.size)))
      have ND := Lib.hid (N.out _ (P2.fresh hgd))
      have OW := Lib.hid (fun w4 (hg4 : Below wr.heap.size wr w4) => Arena.owns_fresh hown hg4)
      obtain ⟨⟨b0, b1, b2, b3, b4, x0, x1, a0, d0⟩, a1⟩ := HC.out _ hb
      clear HC hv hqn hH HN KD HP N P2 HA hq hown P1
      generalize ((A.take n).filter P).length = pn at *
      generalize Arena.cellsH ((A.take n).filter P) = pc at *
      generalize P ((kk : Int), qg) = pq at *
      generalize within st (kk : Int) qg = y at *
      cases hjk : st.names j k
      · rw [hjk] at ND hkd
        simp only [Bool.false_and] at hkd
        subst hkd
        clear YES
        go_wp2_with fail
        refine wp_region_held_drew (S := (fun w' => w'.cell? ⟨w.heap.size, 0, none⟩ = some (.int .i64 r) ∧ w'.cell? ⟨w.heap.size, 1, none⟩ = some (.slice (some ⟨gb, 0, none⟩) st.pl.length cp) ∧ w'.cell? ⟨w.heap.size, 2, none⟩ = some v2 ∧ w'.cell? ⟨w.heap.size, 3, none⟩ = some v3 ∧ w'.cell? ⟨w.heap.size, 4, none⟩ = some v4 ∧ w'.cell? ⟨w.heap.size + 1, 0, none⟩ = some (.int .i64 j) ∧ w'.cell? ⟨w.heap.size + 1, 1, none⟩ = some (.int .i64 k))) (by kernel_rfl) ⟨b0, b1, b2, b3, b4, x0, x1⟩ (fun hHeld => ?_)
        refine wpAnyH_take (i := 0) (oi := ⟨some 17, _, _, _, _, _⟩) (v := ?_) rfl (by kernel_rfl) (by kernel_rfl) (by kernel_rfl) (fun _ _ _ h => h) (Or.inl ⟨by rfl, ?_⟩) (by assumption) ?_
        rotate_left
        · intro w' hS'
          try dsimp only at hS'
          go_simp
          try with_reducible rfl
        try simp only [Act.put, List.setIfInBounds_toArray, List.set_cons_zero, List.set_cons_succ]
        refine wpAnyH_take (i := 1) (oi := ⟨some 18, _, _, _, _, _⟩) (v := ?_) rfl (by kernel_rfl) (by kernel_rfl) (by kernel_rfl) (fun _ _ _ h => h) (Or.inl ⟨by rfl, ?_⟩) (by assumption) ?_
        rotate_left
        · intro w' hS'
          try dsimp only at hS'
          go_simp
          try with_reducible rfl
        try simp only [Act.put, List.setIfInBounds_toArray, List.set_cons_zero, List.set_cons_succ]
        refine wpAnyH_take (i := 2) (oi := ⟨some 19, _, _, _, _, _⟩) (v := ?_) rfl (by kernel_rfl) (by kernel_rfl) (by kernel_rfl) (fun _ _ _ h => h) (Or.inl ⟨by rfl, ?_⟩) (by assumption) ?_
        rotate_left
        · intro w' hS'
          try dsimp only at hS'
          go_simp
          try with_reducible rfl
        try simp only [Act.put, List.setIfInBounds_toArray, List.set_cons_zero, List.set_cons_succ]
        refine wpAnyH_ready (rs := [3]) (by kernel_rfl) (by simp) ?_
        refine AllReadyH.cons (o := ⟨some 20, _, _, _, _, _⟩) rfl (fun K hK => ?_) AllReadyH.nil
        go_simp
        go_at_call 25
        refine ND.out.mono ?_
        rintro e w4 ⟨rfl, hg4⟩
        have ce := (HN1.out _ (hgd.trans hg4)).1
        go_wp2_with fail
        refine hK.out _ _ ⟨ce.1, ce.2.1, ce.2.2.1, ce.2.2.2.1, ce.2.2.2.2.1, ce.2.2.2.2.2.1, ce.2.2.2.2.2.2.1⟩ (fun hHeld => ?_)
        clear hK K
        refine wpAnyH_take (i := 4) (oi := ⟨some 21, _, _, _, _, _⟩) (v := ?_) rfl (by kernel_rfl) (by kernel_rfl) (by kernel_rfl) (fun _ _ _ h => h) (Or.inl ⟨by rfl, ?_⟩) (by assumption) ?_
        rotate_left
        · intro w' hS'
          try dsimp only at hS'
          go_simp
          try with_reducible rfl
        try simp only [Act.put, List.setIfInBounds_toArray, List.set_cons_zero, List.set_cons_succ]
        refine wpAnyH_take (i := 5) (oi := ⟨some 22, _, _, _, _, _⟩) (v := undef) rfl (by kernel_rfl) (by kernel_rfl) (by kernel_rfl) (fun _ _ _ h => h) (Or.inr ⟨by rfl, rfl⟩) (by assumption) ?_
        try simp only [Act.put, List.setIfInBounds_toArray, List.set_cons_zero, List.set_cons_succ]
        refine wpAnyH_take (i := 6) (oi := ⟨some 23, _, _, _, _, _⟩) (v := undef) rfl (by kernel_rfl) (by kernel_rfl) (by kernel_rfl) (fun _ _ _ h => h) (Or.inr ⟨by rfl, rfl⟩) (by assumption) ?_
        try simp only [Act.put, List.setIfInBounds_toArray, List.set_cons_zero, List.set_cons_succ]
        refine wpAnyH_take (i := 7) (oi := ⟨some 24, _, _, _, _, _⟩) (v := undef) rfl (by kernel_rfl) (by kernel_rfl) (by kernel_rfl) (fun _ _ _ h => h) (Or.inr ⟨by rfl, rfl⟩) (by assumption) ?_
        try simp only [Act.put, List.setIfInBounds_toArray, List.set_cons_zero, List.set_cons_succ]
        refine wpAnyH_take (i := 8) (oi := ⟨some 25, _, _, _, _, _⟩) (v := undef) rfl (by kernel_rfl) (by kernel_rfl) (by kernel_rfl) (fun _ _ _ h => h) (Or.inr ⟨by rfl, rfl⟩) (by assumption) ?_
        try simp only [Act.put, List.setIfInBounds_toArray, List.set_cons_zero, List.set_cons_succ]
        refine wpAnyH_take (i := 9) (oi := ⟨some 26, _, _, _, _, _⟩) (v := undef) rfl (by kernel_rfl) (by kernel_rfl) (by kernel_rfl) (fun _ _ _ h => h) (Or.inr ⟨by rfl, rfl⟩) (by assumption) ?_
        try simp only [Act.put, List.setIfInBounds_toArray, List.set_cons_zero, List.set_cons_succ]
        refine wpAnyH_take (i := 10) (oi := ⟨some 27, _, _, _, _, _⟩) (v := undef) rfl (by kernel_rfl) (by kernel_rfl) (by kernel_rfl) (fun _ _ _ h => h) (Or.inr ⟨by rfl, rfl⟩) (by assumption) ?_
        try simp only [Act.put, List.setIfInBounds_toArray, List.set_cons_zero, List.set_cons_succ]
        refine wpAnyH_take (i := 11) (oi := ⟨some 28, _, _, _, _, _⟩) (v := undef) rfl (by kernel_rfl) (by kernel_rfl) (by kernel_rfl) (fun _ _ _ h => h) (Or.inr ⟨by rfl, rfl⟩) (by assumption) ?_
        try simp only [Act.put, List.setIfInBounds_toArray, List.set_cons_zero, List.set_cons_succ]
        refine wpAnyH_take (i := 12) (oi := ⟨some 29, _, _, _, _, _⟩) (v := undef) rfl (by kernel_rfl) (by kernel_rfl) (by kernel_rfl) (fun _ _ _ h => h) (Or.inr ⟨by rfl, rfl⟩) (by assumption) ?_
        try simp only [Act.put, List.setIfInBounds_toArray, List.set_cons_zero, List.set_cons_succ]
        refine wpAnyH_take (i := 13) (oi := ⟨some 30, _, _, _, _, _⟩) (v := undef) rfl (by kernel_rfl) (by kernel_rfl) (by kernel_rfl) (fun _ _ _ h => h) (Or.inr ⟨by rfl, rfl⟩) (by assumption) ?_
        try simp only [Act.put, List.setIfInBounds_toArray, List.set_cons_zero, List.set_cons_succ]
        refine wpAnyH_take (i := 14) (oi := ⟨some 31, _, _, _, _, _⟩) (v := undef) rfl (by kernel_rfl) (by kernel_rfl) (by kernel_rfl) (fun _ _ _ h => h) (Or.inr ⟨by rfl, rfl⟩) (by assumption) ?_
        try simp only [Act.put, List.setIfInBounds_toArray, List.set_cons_zero, List.set_cons_succ]
        refine wpAnyH_take (i := 15) (oi := ⟨some 32, _, _, _, _, _⟩) (v := undef) rfl (by kernel_rfl) (by kernel_rfl) (by kernel_rfl) (fun _ _ _ h => h) (Or.inr ⟨by rfl, rfl⟩) (by assumption) ?_
        try simp only [Act.put, List.setIfInBounds_toArray, List.set_cons_zero, List.set_cons_succ]
        refine wpAnyH_take (i := 16) (oi := ⟨some 33, _, _, _, _, _⟩) (v := undef) rfl (by kernel_rfl) (by kernel_rfl) (by kernel_rfl) (fun _ _ _ h => h) (Or.inr ⟨by rfl, rfl⟩) (by assumption) ?_
        try simp only [Act.put, List.setIfInBounds_toArray, List.set_cons_zero, List.set_cons_succ]
        refine wpAnyH_take (i := 17) (oi := ⟨some 34, _, _, _, _, _⟩) (v := undef) rfl (by kernel_rfl) (by kernel_rfl) (by kernel_rfl) (fun _ _ _ h => h) (Or.inr ⟨by rfl, rfl⟩) (by assumption) ?_
        try simp only [Act.put, List.setIfInBounds_toArray, List.set_cons_zero, List.set_cons_succ]
        refine wpAnyH_take (i := 18) (oi := ⟨some 35, _, _, _, _, _⟩) (v := ?_) rfl (by kernel_rfl) (by kernel_rfl) (by kernel_rfl) (fun _ _ _ h => h) (Or.inl ⟨by rfl, ?_⟩) (by assumption) ?_
        rotate_left
        · intro w' hS'
          try dsimp only at hS'
          go_simp
          try with_reducible rfl
        try simp only [Act.put, List.setIfInBounds_toArray, List.set_cons_zero, List.set_cons_succ]
        refine wpAnyH_done (by kernel_rfl) ?_ _
        all_goals
          have F1 := Lib.hid (NO.out (by first | rfl | trivial) w4 (hb.trans ((hgd.trans hg4).mono hb.size)) (OW.out _ (hgd.trans hg4)))
          clear NO OW HN1
          go_wp2_with fail
          go_roundg (A.length - (n + 1))
          case measure => omega
          case rel => exact F1.out
      · rw [hjk] at ND hkd
        simp only [Bool.true_and] at hkd
        by_cases hy : y = j
        · subst hy
          have : pq = true := by rw [hkd]; simp
          subst this
          clear NO hkd
          go_wp2_with fail
          go_region_held3 (fun w' => w'.cell? ⟨w.heap.size, 0, none⟩ = some (.int .i64 r) ∧ w'.cell? ⟨w.heap.size, 1, none⟩ = some (.slice (some ⟨gb, 0, none⟩) st.pl.length cp) ∧ w'.cell? ⟨w.heap.size, 2, none⟩ = some v2 ∧ w'.cell? ⟨w.heap.size, 3, none⟩ = some v3 ∧ w'.cell? ⟨w.heap.size, 4, none⟩ = some v4 ∧ w'.cell? ⟨w.heap.size + 1, 0, none⟩ = some (.int .i64 y) ∧ w'.cell? ⟨w.heap.size + 1, 1, none⟩ = some (.int .i64 k) ∧ w'.cell? ⟨gA, n * 2, none⟩ = some (.int .i64 (kk : Int)) ∧ w'.cell? ⟨gb, kk, none⟩ = some (.int .i64 y)) (first | exact ⟨b0, b1, b2, b3, b4, x0, x1, a0, d0⟩ | exact ce)
            (first | (go_at_call 25; refine ND.out.mono ?_; rintro e w4 ⟨rfl, hg4⟩; have ce := (HN1.out _ (hgd.trans hg4)).1))
          obtain ⟨⟨b0, b1, b2, b3, b4, x0, x1, a0, d0⟩, a1⟩ := HN1.out _ (hgd.trans hg4)
          have hb4 := hb.trans ((hgd.trans hg4).mono hb.size)
          have hown4 := OW.out _ (hgd.trans hg4)
          clear OW HN1 ce
          go_wp2_with (at_builtin; refine wpList_append_own _ rfl (.tmp 36) (.tmp 41) 35 rfl w1.heap.size 34 i0 _ 2 16 Try.underlying35 hi hz0 hz1 hz2 rfl (by decide) _ _ _ rfl (hown4.alloc _) ⟨w4.heap.size, 0, none⟩ 1 1 [.int .i64 (kk : Int), .int .i64 qg] rfl rfl (World.news_of_block (heap_alloc_new w4 _)) (by simp [Value.oneCell']) (by simp only [maxLen]; omega) (by omega) (by have := hb4.size; simp; omega) ?_; intro v' w5 hown5 hgrow5 _)
          have hb5 := (hb4.alloc hb4.size _).grown hgrow5 (by have := hb4.size; simp; omega) (fun i hi => (hown4.lt i hi).1)
          have F1 := Lib.hid (YES.out (by first | rfl | trivial) v' w5 hb5 hown5)
          clear YES hown5 hown4 hgrow5
          go_wp2_with fail
          go_roundg (A.length - (n + 1))
          case measure => omega
          case rel => exact F1.out
        · have hy' : (y == j) = false := by simpa using hy
          rw [hy'] at hkd
          subst hkd
          clear YES
          go_wp2_with fail
          go_region_held3 (fun w' => w'.cell? ⟨w.heap.size, 0, none⟩ = some (.int .i64 r) ∧ w'.cell? ⟨w.heap.size, 1, none⟩ = some (.slice (some ⟨gb, 0, none⟩) st.pl.length cp) ∧ w'.cell? ⟨w.heap.size, 2, none⟩ = some v2 ∧ w'.cell? ⟨w.heap.size, 3, none⟩ = some v3 ∧ w'.cell? ⟨w.heap.size, 4, none⟩ = some v4 ∧ w'.cell? ⟨w.heap.size + 1, 0, none⟩ = some (.int .i64 j) ∧ w'.cell? ⟨w.heap.size + 1, 1, none⟩ = some (.int .i64 k) ∧ w'.cell? ⟨gA, n * 2, none⟩ = some (.int .i64 (kk : Int)) ∧ w'.cell? ⟨gb, kk, none⟩ = some (.int .i64 y)) (first | exact ⟨b0, b1, b2, b3, b4, x0, x1, a0, d0⟩ | exact ce)
            (first | (go_at_call 25; refine ND.out.mono ?_; rintro e w4 ⟨rfl, hg4⟩; have ce := (HN1.out _ (hgd.trans hg4)).1))
          have F1 := Lib.hid (NO.out (by first | rfl | trivial) w4 (hb.trans ((hgd.trans hg4).mono hb.size)) (OW.out _ (hgd.trans hg4)))
          clear NO OW HN1 ce
          go_wp2_with fail
          go_roundg (A.length - (n + 1))
          case measure => omega
          case rel => exact F1.out
    · obtain rfl : n = A.length := by omega
      have s1 : ¬ (A.length : Int) < A.length := by omega
      rw [List.take_length] at hown
      have HF := Lib.hid (show Arena.IsAll (A.filter P) w (.returned v0) wr from ⟨v0, rfl, Arena.owns_lower hown P1.b.size, P2.b⟩)
      clear hown hlt P2 P1 HA N HN hH HP KD
      go_wp2_with fail
      go_ret
      exact HF.out
end Go.Proofs.Ytanahddlnchioaa.Gt
