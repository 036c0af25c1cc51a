/- What Under of the document's tree answers. Conditions: as each fact states them. -/
import Derived.Test.YtanahddlnchioaaGtDocS
import Derived.Test.YtanahddlnchioaaGtDocK
namespace Go.Proofs.Ytanahddlnchioaa.Gt
open Go.ChangeShapes Go.WideShapes Go.ChangeAt Go.RowKit Hp
set_option linter.unusedVariables false
set_option linter.unusedSimpArgs false
set_option maxRecDepth 100000

set_option maxHeartbeats 8000000 in
theorem refUnder (w : World) (B : Nat) (r : Int) (v1 v2 v3 v4 : Value) (st : St) (j k : Int) (h : Arena.RefAt B v1 v2 v3 v4 (doc st) w) (h1 : st.pl.length ≤ 4096) (ho : Ok st) :
    Calls Try.prog 37 #[.agg #[.int .i64 r, v1, v2, v3, v4], .agg #[.int .i64 j, .int .i64 k]] w (Arena.IsAll ((hs st.pl st.pl.length).filter fun q => under? st q.1 q.2 j k) w) := by
  obtain ⟨i0, hi, hz0, hz1, hz2⟩ := info_parts Arena.infoH
  have PB := box2' w r v1 v2 v3 v4 j k
  have N := Lib.hid (fun W (hB : Box2 w r v1 v2 v3 v4 j k W) => Arena.refNames W B r v1 v2 v3 v4 (doc st) j k (h.fresh hB.b) (by rw [doc_len]; exact h1))
  have AL := Lib.hid (fun W (hB : Box2 w r v1 v2 v3 v4 j k W) => Arena.refAll W B r v1 v2 v3 v4 (doc st) (h.fresh hB.b) (by rw [doc_len]; exact h1))
  rw [doc_names] at N
  have hh : Arena.hs (doc st).pl (doc st).pl.length = hs st.pl st.pl.length := by rw [doc_len]; exact doc_hs _ _
  rw [hh] at AL
  have HN : Hid (∀ q ∈ hs st.pl st.pl.length, st.names q.1 q.2 = true) := fun q hq => hs_named hq
  have hAl : (hs st.pl st.pl.length).length ≤ 4096 := Nat.le_trans (hs_le _ _) h1
  have hH := Lib.hid (fun W (hB : Box2 w r v1 v2 v3 v4 j k W) => h.fresh hB.b)
  have hlen := Lib.hid (doc_len st)
  have BL := Lib.hid (fun W (hB : Box2 w r v1 v2 v3 v4 j k W) (i g : Int) (hq : st.names i g = true) (hj : st.names j k = true) => refBelow W B r v1 v2 v3 v4 st i g j k (upsOf st i g) (h.fresh hB.b) h1 (ho.ups hq).1 hj)
  obtain ⟨P, hP⟩ : ∃ P : Int × Int → Bool, (fun q => under? st q.1 q.2 j k) = P := ⟨_, rfl⟩
  have HP : Hid (∀ q, P q = under? st q.1 q.2 j k) := fun q => by rw [← hP]
  rw [hP]
  generalize hs st.pl st.pl.length = A at *
  unfold treO hanO at PB
  clear h ho hh hP
  go_enter Try.func37, Try.ntmps37
  go_upto_region 1 with fail
  generalize (w.alloc _).alloc _ = W at *
  obtain ⟨⟨b0, b1, b2, b3, b4, bz⟩, ⟨x0, x1, xz⟩⟩ := PB.cells
  go_upto_region 2 with (go_at_call 17; refine (AL.out _ PB).mono ?_; rintro e w1 ⟨va, rfl, hA, hg1⟩)
  have P1 := PB.fresh hg1
  clear b0 b1 b2 b3 b4 bz x0 x1 xz
  obtain ⟨ao, ca, rfl⟩ := Arena.owns_shape hA
  have HA := Lib.hid hA
  have J0 : Hid (PickI w1 A P A.length (.slice none 0 0) (.int .i64 0) w1) := ⟨0, _, rfl, by omega, rfl, rfl, World.ownsRow_nil _ _ _ _, Below.refl _ w1⟩
  clear AL PB hA hg1
  go_wp2_with fail
  go_loopg [6, 7] A.length (fun left t6 t7 wr => PickI w1 A P left t6 t7 wr)
  case atStart => exact J0.out
  case round =>
    clear J0
    obtain ⟨n, v0, rfl, hn, rfl, rfl, hown, hb⟩ := hrel
    have P2 := P1.fresh hb
    by_cases hlt : n < A.length
    · obtain ⟨q, hq⟩ : ∃ q, A[n]? = some q := ⟨_, List.getElem?_eq_getElem hlt⟩
      have hqn := HN.out q (List.mem_of_getElem? hq)
      have hkd := HP.out q
      unfold under? at hkd
      rw [hqn, Bool.true_and] at hkd
      obtain ⟨kk, hkk, hkl, hv⟩ := doc_val hqn
      obtain ⟨qi, qg⟩ := q
      simp only at hkk hkd hv hqn
      subst hkk
      obtain ⟨gA, cA, eA, _, _⟩ := Arena.told_cell HA.out hq
      cases eA
      clear hv
      have HC : Hid (∀ w', Below w1.heap.size w1 w' → (w'.cell? ⟨w.heap.size, 0, none⟩ = some (.int .i64 r) ∧ w'.cell? ⟨w.heap.size, 1, none⟩ = some v1 ∧ w'.cell? ⟨w.heap.size, 2, none⟩ = some v2 ∧ w'.cell? ⟨w.heap.size, 3, none⟩ = some v3 ∧ w'.cell? ⟨w.heap.size, 4, none⟩ = some v4 ∧ w'.cell? ⟨w.heap.size + 1, 0, none⟩ = some (.int .i64 j) ∧ w'.cell? ⟨w.heap.size + 1, 1, none⟩ = some (.int .i64 k) ∧ w'.cell? ⟨gA, n * 2, none⟩ = some (.int .i64 (kk : Int))) ∧ w'.cell? ⟨gA, n * 2 + 1, none⟩ = some (.int .i64 qg)) := fun w' hg => by
        have PX := P1.fresh hg
        obtain ⟨⟨a0, a1, a2, a3, a4, _⟩, ⟨e0, e1, _⟩⟩ := PX.cells
        obtain ⟨gA', cA', eA', c0, c1⟩ := Arena.told_cell (Arena.owns_fresh HA.out hg) hq
        cases eA'
        exact ⟨⟨a0, a1, a2, a3, a4, e0, e1, c0⟩, c1⟩
      have NO : Hid (P ((kk : Int), qg) = false → ∀ w4, Below w1.heap.size w1 w4 → w4.ownsRow w1.heap.size 34 2 v0 ((A.take n).filter P).length (Arena.cellsH ((A.take n).filter P)) → PickI w1 A P (A.length - (n + 1)) v0 (.int .i64 ((n : Int) + 1)) w4) := fun hp w4 hg ho => by
        refine ⟨n + 1, v0, rfl, by omega, rfl, by go_num, ?_, hg⟩
        rw [pick_no hq hp]; exact ho
      have YES : Hid (P ((kk : Int), qg) = true → ∀ v' w4, Below w1.heap.size w1 w4 → w4.ownsRow w1.heap.size 34 2 v' (((A.take n).filter P).length + 1) (Arena.cellsH ((A.take n).filter P) ++ [.int .i64 (kk : Int), .int .i64 qg]) → PickI w1 A P (A.length - (n + 1)) v' (.int .i64 ((n : Int) + 1)) w4) := fun hp v' w4 hg ho => by
        refine ⟨n + 1, v', rfl, by omega, rfl, by go_num, ?_, hg⟩
        rw [pick_yes hq hp, List.length_append, Arena.cellsH_append]; exact ho
      have hPl : ((A.take n).filter P).length ≤ 4096 := Nat.le_trans (List.length_filter_le _ _) (by rw [List.length_take]; omega)
      have s1 : (n : Int) < A.length := by omega
      have q4 : (A.length : Int) ≤ 4096 := by omega
      have hgd := (Below.refl wr.heap.size wr).drew
      have HN1 := Lib.hid (fun w4 (hg4 : Below wr.heap.size wr w4) => HC.out _ (hb.trans (hg4.mono hb.size)))
      have ND := Lib.hid (N.out _ (P2.fresh hgd))
      have BD : Hid (st.names j k = true → ∀ w4, Below wr.heap.size wr w4 → _) := Lib.hid (fun hj w4 hg4 => BL.out w4 (P2.fresh hg4) (kk : Int) qg hqn hj)
      have OW := Lib.hid (fun w4 (hg4 : Below wr.heap.size wr w4) => Arena.owns_fresh hown hg4)
      obtain ⟨⟨b0, b1, b2, b3, b4, x0, x1, a0⟩, a1⟩ := HC.out _ hb
      clear HC hqn hH HN BL HP N P2 HA hq hown P1
      generalize ((A.take n).filter P).length = pn at *
      generalize Arena.cellsH ((A.take n).filter P) = pc at *
      generalize P ((kk : Int), qg) = pq at *
      generalize isIn (kk : Int) qg j k (upsOf st (kk : Int) qg) = y at *
      cases hjk : st.names j k
      · rw [hjk] at ND hkd
        simp only [Bool.false_and] at hkd
        subst hkd
        clear YES BD
        go_wp2_with fail
        refine wp_region_held_drew (S := (fun w' => w'.cell? ⟨w.heap.size, 0, none⟩ = some (.int .i64 r) ∧ w'.cell? ⟨w.heap.size, 1, none⟩ = some v1 ∧ w'.cell? ⟨w.heap.size, 2, none⟩ = some v2 ∧ w'.cell? ⟨w.heap.size, 3, none⟩ = some v3 ∧ w'.cell? ⟨w.heap.size, 4, none⟩ = some v4 ∧ w'.cell? ⟨w.heap.size + 1, 0, none⟩ = some (.int .i64 j) ∧ w'.cell? ⟨w.heap.size + 1, 1, none⟩ = some (.int .i64 k))) (by kernel_rfl) ⟨b0, b1, b2, b3, b4, x0, x1⟩ (fun hHeld => ?_)
        refine wpAnyH_take (i := 0) (oi := ⟨some 17, _, _, _, _, _⟩) (v := ?_) rfl (by kernel_rfl) (by kernel_rfl) (by kernel_rfl) (fun _ _ _ h => h) (Or.inl ⟨by rfl, ?_⟩) (by assumption) ?_
        rotate_left
        · intro w' hS'
          try dsimp only at hS'
          go_simp
          try with_reducible rfl
        try simp only [Act.put, List.setIfInBounds_toArray, List.set_cons_zero, List.set_cons_succ]
        refine wpAnyH_take (i := 1) (oi := ⟨some 18, _, _, _, _, _⟩) (v := ?_) rfl (by kernel_rfl) (by kernel_rfl) (by kernel_rfl) (fun _ _ _ h => h) (Or.inl ⟨by rfl, ?_⟩) (by assumption) ?_
        rotate_left
        · intro w' hS'
          try dsimp only at hS'
          go_simp
          try with_reducible rfl
        try simp only [Act.put, List.setIfInBounds_toArray, List.set_cons_zero, List.set_cons_succ]
        refine wpAnyH_take (i := 2) (oi := ⟨some 19, _, _, _, _, _⟩) (v := ?_) rfl (by kernel_rfl) (by kernel_rfl) (by kernel_rfl) (fun _ _ _ h => h) (Or.inl ⟨by rfl, ?_⟩) (by assumption) ?_
        rotate_left
        · intro w' hS'
          try dsimp only at hS'
          go_simp
          try with_reducible rfl
        try simp only [Act.put, List.setIfInBounds_toArray, List.set_cons_zero, List.set_cons_succ]
        refine wpAnyH_ready (rs := [3]) (by kernel_rfl) (by simp) ?_
        refine AllReadyH.cons (o := ⟨some 20, _, _, _, _, _⟩) rfl (fun K hK => ?_) AllReadyH.nil
        go_simp
        go_at_call 25
        refine ND.out.mono ?_
        rintro e w4 ⟨rfl, hg4⟩
        have ce := (HN1.out _ (hgd.trans hg4)).1
        go_wp2_with fail
        refine hK.out _ _ ⟨ce.1, ce.2.1, ce.2.2.1, ce.2.2.2.1, ce.2.2.2.2.1, ce.2.2.2.2.2.1, ce.2.2.2.2.2.2.1⟩ (fun hHeld => ?_)
        clear hK K
        refine wpAnyH_take (i := 4) (oi := ⟨some 21, _, _, _, _, _⟩) (v := ?_) rfl (by kernel_rfl) (by kernel_rfl) (by kernel_rfl) (fun _ _ _ h => h) (Or.inl ⟨by rfl, ?_⟩) (by assumption) ?_
        rotate_left
        · intro w' hS'
          try dsimp only at hS'
          go_simp
          try with_reducible rfl
        try simp only [Act.put, List.setIfInBounds_toArray, List.set_cons_zero, List.set_cons_succ]
        refine wpAnyH_take (i := 5) (oi := ⟨some 22, _, _, _, _, _⟩) (v := undef) rfl (by kernel_rfl) (by kernel_rfl) (by kernel_rfl) (fun _ _ _ h => h) (Or.inr ⟨by rfl, rfl⟩) (by assumption) ?_
        try simp only [Act.put, List.setIfInBounds_toArray, List.set_cons_zero, List.set_cons_succ]
        refine wpAnyH_take (i := 6) (oi := ⟨some 23, _, _, _, _, _⟩) (v := undef) rfl (by kernel_rfl) (by kernel_rfl) (by kernel_rfl) (fun _ _ _ h => h) (Or.inr ⟨by rfl, rfl⟩) (by assumption) ?_
        try simp only [Act.put, List.setIfInBounds_toArray, List.set_cons_zero, List.set_cons_succ]
        refine wpAnyH_take (i := 7) (oi := ⟨some 24, _, _, _, _, _⟩) (v := undef) rfl (by kernel_rfl) (by kernel_rfl) (by kernel_rfl) (fun _ _ _ h => h) (Or.inr ⟨by rfl, rfl⟩) (by assumption) ?_
        try simp only [Act.put, List.setIfInBounds_toArray, List.set_cons_zero, List.set_cons_succ]
        refine wpAnyH_take (i := 8) (oi := ⟨some 25, _, _, _, _, _⟩) (v := undef) rfl (by kernel_rfl) (by kernel_rfl) (by kernel_rfl) (fun _ _ _ h => h) (Or.inr ⟨by rfl, rfl⟩) (by assumption) ?_
        try simp only [Act.put, List.setIfInBounds_toArray, List.set_cons_zero, List.set_cons_succ]
        refine wpAnyH_take (i := 9) (oi := ⟨some 26, _, _, _, _, _⟩) (v := undef) rfl (by kernel_rfl) (by kernel_rfl) (by kernel_rfl) (fun _ _ _ h => h) (Or.inr ⟨by rfl, rfl⟩) (by assumption) ?_
        try simp only [Act.put, List.setIfInBounds_toArray, List.set_cons_zero, List.set_cons_succ]
        refine wpAnyH_take (i := 10) (oi := ⟨some 27, _, _, _, _, _⟩) (v := undef) rfl (by kernel_rfl) (by kernel_rfl) (by kernel_rfl) (fun _ _ _ h => h) (Or.inr ⟨by rfl, rfl⟩) (by assumption) ?_
        try simp only [Act.put, List.setIfInBounds_toArray, List.set_cons_zero, List.set_cons_succ]
        refine wpAnyH_take (i := 11) (oi := ⟨some 28, _, _, _, _, _⟩) (v := undef) rfl (by kernel_rfl) (by kernel_rfl) (by kernel_rfl) (fun _ _ _ h => h) (Or.inr ⟨by rfl, rfl⟩) (by assumption) ?_
        try simp only [Act.put, List.setIfInBounds_toArray, List.set_cons_zero, List.set_cons_succ]
        refine wpAnyH_take (i := 12) (oi := ⟨some 29, _, _, _, _, _⟩) (v := undef) rfl (by kernel_rfl) (by kernel_rfl) (by kernel_rfl) (fun _ _ _ h => h) (Or.inr ⟨by rfl, rfl⟩) (by assumption) ?_
        try simp only [Act.put, List.setIfInBounds_toArray, List.set_cons_zero, List.set_cons_succ]
        refine wpAnyH_take (i := 13) (oi := ⟨some 30, _, _, _, _, _⟩) (v := undef) rfl (by kernel_rfl) (by kernel_rfl) (by kernel_rfl) (fun _ _ _ h => h) (Or.inr ⟨by rfl, rfl⟩) (by assumption) ?_
        try simp only [Act.put, List.setIfInBounds_toArray, List.set_cons_zero, List.set_cons_succ]
        refine wpAnyH_take (i := 14) (oi := ⟨some 31, _, _, _, _, _⟩) (v := ?_) rfl (by kernel_rfl) (by kernel_rfl) (by kernel_rfl) (fun _ _ _ h => h) (Or.inl ⟨by rfl, ?_⟩) (by assumption) ?_
        rotate_left
        · intro w' hS'
          try dsimp only at hS'
          go_simp
          try with_reducible rfl
        try simp only [Act.put, List.setIfInBounds_toArray, List.set_cons_zero, List.set_cons_succ]
        refine wpAnyH_done (by kernel_rfl) ?_ _
        have F1 := Lib.hid (NO.out (by first | rfl | trivial) w4 (hb.trans ((hgd.trans hg4).mono hb.size)) (OW.out _ (hgd.trans hg4)))
        clear NO OW HN1
        go_wp2_with fail
        go_roundg (A.length - (n + 1))
        case measure => omega
        case rel => exact F1.out
      · have BT := Lib.hid (BD.out hjk)
        rw [hjk] at ND hkd
        simp only [Bool.true_and] at hkd
        subst hkd
        clear BD
        cases pq
        all_goals
          go_wp2_with fail
          go_region_held3 (fun w' => w'.cell? ⟨w.heap.size, 0, none⟩ = some (.int .i64 r) ∧ w'.cell? ⟨w.heap.size, 1, none⟩ = some v1 ∧ w'.cell? ⟨w.heap.size, 2, none⟩ = some v2 ∧ w'.cell? ⟨w.heap.size, 3, none⟩ = some v3 ∧ w'.cell? ⟨w.heap.size, 4, none⟩ = some v4 ∧ w'.cell? ⟨w.heap.size + 1, 0, none⟩ = some (.int .i64 j) ∧ w'.cell? ⟨w.heap.size + 1, 1, none⟩ = some (.int .i64 k) ∧ w'.cell? ⟨gA, n * 2, none⟩ = some (.int .i64 (kk : Int))) (first | exact ⟨b0, b1, b2, b3, b4, x0, x1, a0⟩ | exact ce | exact ce2)
            (first | (go_at_call 25; refine ND.out.mono ?_; rintro e w4 ⟨rfl, hg4⟩; have ce := (HN1.out _ (hgd.trans hg4)).1) | (go_at_call 36; refine (BT.out w4 (hgd.trans hg4)).mono ?_; rintro e w5 ⟨rfl, hg5⟩; replace hg5 := fresh_trans (hgd.trans hg4) (show Below _ _ _ from by simpa using hg5); have ce2 := (HN1.out _ hg5).1))
        · have F1 := Lib.hid (NO.out (by first | rfl | trivial) w5 (hb.trans (hg5.mono hb.size)) (OW.out _ hg5))
          clear NO OW HN1
          go_wp2_with fail
          go_roundg (A.length - (n + 1))
          case measure => omega
          case rel => exact F1.out
        · obtain ⟨⟨b0, b1, b2, b3, b4, x0, x1, a0⟩, a1⟩ := HN1.out _ hg5
          have hb4 := hb.trans (hg5.mono hb.size)
          have hown4 := OW.out _ hg5
          clear OW HN1 ce
          go_wp2_with (at_builtin; refine wpList_append_own _ rfl (.tmp 32) (.tmp 37) 35 rfl w1.heap.size 34 i0 _ 2 16 Try.underlying35 hi hz0 hz1 hz2 rfl (by decide) _ _ _ rfl (hown4.alloc _) ⟨w5.heap.size, 0, none⟩ 1 1 [.int .i64 (kk : Int), .int .i64 qg] rfl rfl (World.news_of_block (heap_alloc_new w5 _)) (by simp [Value.oneCell']) (by simp only [maxLen]; omega) (by omega) (by have := hb4.size; simp; omega) ?_; intro v' w6 hown5 hgrow5 _)
          have hb5 := (hb4.alloc hb4.size _).grown hgrow5 (by have := hb4.size; simp; omega) (fun i hi => (hown4.lt i hi).1)
          have F1 := Lib.hid (YES.out (by first | rfl | trivial) v' w6 hb5 hown5)
          clear YES hown5 hown4 hgrow5
          go_wp2_with fail
          go_roundg (A.length - (n + 1))
          case measure => omega
          case rel => exact F1.out
    · obtain rfl : n = A.length := by omega
      have s1 : ¬ (A.length : Int) < A.length := by omega
      rw [List.take_length] at hown
      have HF := Lib.hid (show Arena.IsAll (A.filter P) w (.returned v0) wr from ⟨v0, rfl, Arena.owns_lower hown P1.b.size, P2.b⟩)
      clear hown hlt P2 P1 HA N HN hH HP BL
      go_wp2_with fail
      go_ret
      exact HF.out
end Go.Proofs.Ytanahddlnchioaa.Gt
