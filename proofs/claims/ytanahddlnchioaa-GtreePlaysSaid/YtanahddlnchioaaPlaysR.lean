/- Whatever is asked of a tree, and of the document's, in whatever case; and that both tell the same. Conditions: as each fact states them. -/
import Derived.Test.YtanahddlnchioaaPlaysQ
import Derived.Test.YtanahddlnchioaaGtSame
import Derived.Test.YtanahddlnchioaaGtGrown
namespace Go.Proofs.Ytanahddlnchioaa.Gt
open Go.ChangeShapes Go.WideShapes Go.ChangeAt Go.RowKit Hp
set_option linter.unusedVariables false
set_option linter.unusedSimpArgs false
set_option maxRecDepth 100000

def pathL (st : St) (i g : Int) : List Int := if st.names i g = true then pathOf i (upsOf st i g) else []
def whoN (st : St) (i g : Int) : Int := if st.names i g = true then 0 else 2
def pI (st : St) (i g : Int) : Int := if st.names i g = true then parI st i g else 0
def pG (st : St) (i g : Int) : Int := if st.names i g = true then parG st i g else 0
def pN (st : St) (i g : Int) : Int := if st.names i g = true then parN i g else 2
theorem pathOf_len' (i : Int) (l : List (Int × Int)) : (pathOf i l).length = l.length := by simp [pathOf, upIdx_length]

section
variable {w : World} {tb b B : Nat} {O : Nat → Prop} {N0 r : Int} {v1 v2 v3 v4 : Value} {st : St}
theorem pathX (i g : Int) (h : Tre w tb b O st) (hS : Snd N0 st) : Calls Try.prog 18 #[.pointer (some ⟨tb, 0, none⟩), .agg #[.int .i64 i, .int .i64 g]] w (IsPath (pathL st i g) (whoN st i g) w) := by
  unfold pathL whoN
  cases hn : st.names i g
  · exact path_none w tb b O st i g h hS.inv.l1 hn
  · obtain ⟨hu, hl⟩ := hS.ok.ups hn
    exact path_some w tb b O st i g _ h hS.inv.l1 hu (by omega)
theorem parentX (i g : Int) (h : Tre w tb b O st) (hS : Snd N0 st) : Calls Try.prog 40 #[.pointer (some ⟨tb, 0, none⟩), .agg #[.int .i64 i, .int .i64 g]] w (IsTwo (pI st i g) (pG st i g) (pN st i g) w) := by
  unfold pI pG pN
  cases hn : st.names i g
  · exact parent_none w tb b O st i g h hS.inv.l1 hn
  · exact parent_any w tb b O st i g h hS.inv.l1 hn
theorem depthX (i g : Int) (h : Tre w tb b O st) (hS : Snd N0 st) : Calls Try.prog 24 #[.pointer (some ⟨tb, 0, none⟩), .agg #[.int .i64 i, .int .i64 g]] w (fun e w' => e = .returned (.tuple #[.int .i64 ((pathL st i g).length : Nat), .int .i64 (whoN st i g)]) ∧ Below w.heap.size w w') := by
  unfold pathL whoN
  cases hn : st.names i g
  · exact depth_none w tb b O st i g h hS.inv.l1 hn
  · obtain ⟨hu, hl⟩ := hS.ok.ups hn
    rw [if_pos rfl, if_pos rfl, pathOf_len']
    exact depth w tb b O st i g _ h hS.inv.l1 hu (by omega)
theorem refPathX (i g : Int) (h : Arena.RefAt B v1 v2 v3 v4 (doc st) w) (hS : Snd N0 st) : Calls Try.prog 39 #[.agg #[.int .i64 r, v1, v2, v3, v4], .agg #[.int .i64 i, .int .i64 g]] w (IsPath (pathL st i g) (whoN st i g) w) := by
  unfold pathL whoN
  cases hn : st.names i g
  · exact refPath_none w B r v1 v2 v3 v4 st i g h hS.inv.l1 hn
  · obtain ⟨hu, hl⟩ := hS.ok.ups hn
    exact refPath_some w B r v1 v2 v3 v4 st i g _ h hS.inv.l1 hu (by omega)
theorem refParentX (i g : Int) (h : Arena.RefAt B v1 v2 v3 v4 (doc st) w) (hS : Snd N0 st) : Calls Try.prog 41 #[.agg #[.int .i64 r, v1, v2, v3, v4], .agg #[.int .i64 i, .int .i64 g]] w (IsTwo (pI st i g) (pG st i g) (pN st i g) w) := by
  unfold pI pG pN
  cases hn : st.names i g
  · exact refParent_none w B r v1 v2 v3 v4 st i g h hS.inv.l1 hn
  · exact refParent_some w B r v1 v2 v3 v4 st i g _ h hS.inv.l1 (hS.ok.ups hn).1
theorem root_zero {i g : Int} (hS : Snd N0 st) (hn : st.names i g = true) : (i == 0) = isRoot i g := by
  by_cases h : i = 0
  · subst h
    rw [root_gen hS.ok.root hn]
    decide
  · simp [isRoot, h]
theorem refCreateX (i g : Int) (h : Arena.RefAt B v1 v2 v3 v4 (doc st) w) (hB : B ≤ w.heap.size) (hS : Snd N0 st) :
    Calls Try.prog 9 #[.agg #[.int .i64 32, v1, v2, v3, v4], .agg #[.int .i64 i, .int .i64 g]] w (IsTre B 32 v1 v2 v3 v4 (fun t => .tuple #[t, .agg #[.int .i64 (creR st i g).i, .int .i64 (creR st i g).g], .int .i64 (creR st i g).n]) (creR st i g).st w) := by
  unfold creR
  cases hn : st.names i g
  · rw [if_pos rfl]
    exact refCreate_none w B 32 v1 v2 v3 v4 st i g h hS.inv.l1 hn
  rw [if_neg (by decide)]
  obtain ⟨hu, hl⟩ := hS.ok.ups hn
  by_cases h8 : (upsOf st i g).length = 8
  · rw [if_pos h8]
    exact refCreate_deep w B 32 v1 v2 v3 v4 st i g _ h hS.inv.l1 hu h8
  · rw [if_neg h8]
    have := refCreate_some w B N0 v1 v2 v3 v4 st i g _ h hB hS hu (by omega)
    rw [hS.room] at this
    exact this
theorem refDestroyX (hN : N0 ≤ 1000000000) (i g : Int) (h : Arena.RefAt B v1 v2 v3 v4 (doc st) w) (hB : B ≤ w.heap.size) (hS : Snd N0 st) :
    Calls Try.prog 11 #[.agg #[.int .i64 32, v1, v2, v3, v4], .agg #[.int .i64 i, .int .i64 g]] w (IsTre B 32 v1 v2 v3 v4 (fun t => .tuple #[t, .int .i64 (desN st i g)]) (desS st i g) w) := by
  unfold desS
  cases hn : st.names i g
  · have e : desN st i g = 2 := by simp [desN, hn]
    rw [e]
    exact refDestroy_none w B 32 v1 v2 v3 v4 st i g h hS.inv.l1 hn
  have hz := root_zero hS hn
  cases hr : isRoot i g
  · rw [hr] at hz
    by_cases hk : 0 < (kidsOf st i g).length
    · have e : desN st i g = 6 := by simp [desN, hn, hr]; intro h0; rw [h0] at hk; simp at hk
      rw [e]
      exact refDestroy_busy w B 32 v1 v2 v3 v4 st i g h hS.inv.l1 hS.ok hn hz hk
    · have hk0 : kidsOf st i g = [] := List.eq_nil_of_length_eq_zero (by omega)
      have e : desN st i g = 0 := by simp [desN, hn, hr, hk0]
      rw [e, if_pos rfl]
      have := refDestroy_some w B N0 hN v1 v2 v3 v4 st i g h hB hS hn hz hk0
      rw [hS.room] at this
      exact this
  · have e : desN st i g = 1 := by simp [desN, hn, hr]
    rw [e]
    obtain ⟨rfl, rfl⟩ := isRoot_eq hr
    exact refDestroy_root w B 32 v1 v2 v3 v4 st 0 h hS.inv.l1 hn
theorem refMoveX (i g j k : Int) (h : Arena.RefAt B v1 v2 v3 v4 (doc st) w) (hB : B ≤ w.heap.size) (hS : Snd N0 st) :
    Calls Try.prog 13 #[.agg #[.int .i64 32, v1, v2, v3, v4], .agg #[.int .i64 i, .int .i64 g], .agg #[.int .i64 j, .int .i64 k]] w (IsTre B 32 v1 v2 v3 v4 (fun t => .tuple #[t, .int .i64 (movN st i g j k)]) (movS st i g j k) w) := by
  unfold movS
  by_cases hn : st.names i g = false ∨ st.names j k = false
  · have e : movN st i g j k = 2 := if_pos hn
    rw [e]
    cases hi : st.names i g
    · exact refMove_none1 w B 32 v1 v2 v3 v4 st i g j k h hS.inv.l1 hi
    · rw [hi] at hn
      exact refMove_none2 w B 32 v1 v2 v3 v4 st i g j k h hS.inv.l1 hi (hn.resolve_left (by decide))
  have hi : st.names i g = true := by cases h' : st.names i g <;> simp_all
  have hj : st.names j k = true := by cases h' : st.names j k <;> simp_all
  have hz := root_zero hS hi
  cases hr : isRoot i g
  · rw [hr] at hz
    cases hin : isIn j k i g (upsOf st j k)
    · have run := fun sp pn hres => refMove_run w B N0 v1 v2 v3 v4 st i g j k h hB hS hi hj hz hin sp pn hres
      rw [hS.room] at run
      by_cases hd : ((upsOf st j k).length : Int) + 1 + reachOf st i g ≤ 8
      · have e : movN st i g j k = 0 := by unfold movN; rw [if_neg hn, if_neg (by rw [hr]; decide), if_neg (by rw [hin]; decide), if_neg (by omega)]
        rw [e, if_pos rfl]
        exact run _ _ (.inr ⟨hd, rfl, rfl⟩)
      · have e : movN st i g j k = 5 := by unfold movN; rw [if_neg hn, if_neg (by rw [hr]; decide), if_neg (by rw [hin]; decide), if_pos (by omega)]
        rw [e]
        exact run _ _ (.inl ⟨by omega, rfl, rfl⟩)
    · have e : movN st i g j k = 10 := by unfold movN; rw [if_neg hn, if_neg (by rw [hr]; decide), if_pos hin]
      rw [e]
      exact refMove_loop w B 32 v1 v2 v3 v4 st i g j k h hS.inv.l1 hi hj hz hS.ok hin
  · have e : movN st i g j k = 1 := by unfold movN; rw [if_neg hn, if_pos hr]
    rw [e]
    obtain ⟨rfl, rfl⟩ := isRoot_eq hr
    exact refMove_root w B 32 v1 v2 v3 v4 st 0 j k h hS.inv.l1 hi hj
end
end Go.Proofs.Ytanahddlnchioaa.Gt

/- The law's same: both trees tell the same of any handle. Conditions: as each fact states them. -/
namespace Go.Proofs.Ytanahddlnchioaa.Gt
open Go.ChangeShapes Go.WideShapes Go.ChangeAt Go.RowKit Hp
set_option linter.unusedVariables false
set_option linter.unusedSimpArgs false
set_option maxRecDepth 100000

theorem whoN_len {N0 : Int} {st : St} (i g : Int) (hS : Snd N0 st) : (pathL st i g).length ≤ 8 := by
  unfold pathL
  cases hn : st.names i g
  · simp
  · rw [if_pos rfl, pathOf_len']; exact (hS.ok.ups hn).2
set_option maxHeartbeats 8000000 in
theorem sames (w : World) (tb b B : Nat) (O : Nat → Prop) (N0 r : Int) (v1 v2 v3 v4 : Value) (st : St) (i g : Int) (h : Tre w tb b O st) (hd : Arena.RefAt B v1 v2 v3 v4 (doc st) w) (hS : Snd N0 st) :
    Calls Try.prog 14 #[.pointer (some ⟨tb, 0, none⟩), .agg #[.int .i64 r, v1, v2, v3, v4], .agg #[.int .i64 i, .int .i64 g]] w (Yes w) := by
  have PB := box2' w r v1 v2 v3 v4 i g
  have T1 := Lib.hid (fun W (hB : Box2 w r v1 v2 v3 v4 i g W) => pathX i g (h.fresh hB.b) hS)
  have T2 := Lib.hid (fun W (hB : Box2 w r v1 v2 v3 v4 i g W) => refPathX (r := r) i g (hd.fresh hB.b) hS)
  have T3 := Lib.hid (fun W (hB : Box2 w r v1 v2 v3 v4 i g W) => parentX i g (h.fresh hB.b) hS)
  have T4 := Lib.hid (fun W (hB : Box2 w r v1 v2 v3 v4 i g W) => refParentX (r := r) i g (hd.fresh hB.b) hS)
  have T5 := Lib.hid (fun W (hB : Box2 w r v1 v2 v3 v4 i g W) => depthX i g (h.fresh hB.b) hS)
  have T6 := Lib.hid (fun W (hB : Box2 w r v1 v2 v3 v4 i g W) => kids W tb b O st i g (h.fresh hB.b) hS.inv.l1 hS.ok)
  have T7 := Lib.hid (fun W (hB : Box2 w r v1 v2 v3 v4 i g W) => refKids W B r v1 v2 v3 v4 st i g (hd.fresh hB.b) hS.inv.l1 hS.ok)
  have T8 := Lib.hid (fun W (hB : Box2 w r v1 v2 v3 v4 i g W) => below W tb b O st i g (h.fresh hB.b) hS.inv.l1 hS.ok)
  have T9 := Lib.hid (fun W (hB : Box2 w r v1 v2 v3 v4 i g W) => refUnder W B r v1 v2 v3 v4 st i g (hd.fresh hB.b) hS.inv.l1 hS.ok)
  have kl : ((hs st.pl st.pl.length).filter fun q => kid? st q.1 q.2 i g).length ≤ 4096 := Nat.le_trans (List.length_filter_le _ _) (Nat.le_trans (hs_le _ _) hS.inv.l1)
  have ul : ((hs st.pl st.pl.length).filter fun q => under? st q.1 q.2 i g).length ≤ 4096 := Nat.le_trans (List.length_filter_le _ _) (Nat.le_trans (hs_le _ _) hS.inv.l1)
  have pl := whoN_len i g hS
  generalize (hs st.pl st.pl.length).filter (fun q => kid? st q.1 q.2 i g) = KL at *
  generalize (hs st.pl st.pl.length).filter (fun q => under? st q.1 q.2 i g) = UL at *
  generalize pathL st i g = PL at *
  generalize whoN st i g = wn at *
  generalize pI st i g = qi at *
  generalize pG st i g = qg at *
  generalize pN st i g = qn at *
  have I9 := Lib.hid (fun W BB BB' v v' => ints_same W BB BB' v v' PL)
  have K9 := Lib.hid (fun W BB BB' v v' h1 (h2 : W.ownsRow BB' 34 2 v' KL.length (Arena.cellsH KL)) => hands_same W BB BB' v v' KL h1 h2 kl)
  have U9 := Lib.hid (fun W BB BB' v v' h1 (h2 : W.ownsRow BB' 34 2 v' UL.length (Arena.cellsH UL)) => hands_same W BB BB' v v' UL h1 h2 ul)
  have CE : Hid (∀ W, Box2 w r v1 v2 v3 v4 i g W → W.cell? ⟨w.heap.size, 0, none⟩ = some (.int .i64 r) ∧ W.cell? ⟨w.heap.size, 1, none⟩ = some v1 ∧ W.cell? ⟨w.heap.size, 2, none⟩ = some v2 ∧ W.cell? ⟨w.heap.size, 3, none⟩ = some v3 ∧ W.cell? ⟨w.heap.size, 4, none⟩ = some v4 ∧ W.cell? ⟨w.heap.size + 1, 0, none⟩ = some (.int .i64 i) ∧ W.cell? ⟨w.heap.size + 1, 1, none⟩ = some (.int .i64 g)) := Lib.hid fun W hB => by
    obtain ⟨⟨a0, a1, a2, a3, a4, _⟩, ⟨e0, e1, _⟩⟩ := hB.cells
    exact ⟨a0, a1, a2, a3, a4, e0, e1⟩
  unfold treO hanO at PB
  clear h hd hS kl ul
  go_enter Try.func14, Try.ntmps14
  go_wp2_with fail
  generalize (w.alloc _).alloc _ = W at *
  obtain ⟨b0, b1, b2, b3, b4, x0, x1⟩ := CE.out _ PB
  go_wp2_with fail
  go_at_call 18; refine (T1.out _ PB).mono ?_; rintro e w1 ⟨va, rfl, hA, hg1⟩
  have P1 := PB.fresh hg1
  clear b0 b1 b2 b3 b4 x0 x1
  obtain ⟨b0, b1, b2, b3, b4, x0, x1⟩ := CE.out _ P1
  replace hA := Lib.hid hA
  go_wp2_with fail
  go_at_call 39; refine (T2.out _ P1).mono ?_; rintro e w2 ⟨vb, rfl, hB, hg2⟩
  have P2 := P1.fresh hg2
  clear b0 b1 b2 b3 b4 x0 x1
  obtain ⟨b0, b1, b2, b3, b4, x0, x1⟩ := CE.out _ P2
  obtain ⟨aob, cpb, rfl⟩ := own_slice hB
  replace hB := Lib.hid hB
  go_wp2_with fail
  go_at_call 40; refine (T3.out _ P2).mono ?_; rintro e w3 ⟨rfl, hg3⟩
  have P3 := P2.fresh hg3
  have P4 := P3.fresh (alloc1 w3 (.cells #[.int .i64 qi, .int .i64 qg] 34))
  have c4 := heap_alloc_new w3 (.cells #[.int .i64 qi, .int .i64 qg] 34)
  clear b0 b1 b2 b3 b4 x0 x1
  obtain ⟨b0, b1, b2, b3, b4, x0, x1⟩ := CE.out _ P4
  go_wp2_with fail
  have g3 := (hg3.trans ((alloc1 w3 (.cells #[.int .i64 qi, .int .i64 qg] 34)).mono hg3.size))
  generalize w3.alloc (.cells #[.int .i64 qi, .int .i64 qg] 34) = W3 at *
  generalize w3.heap.size = z3 at *
  go_at_call 41; refine (T4.out _ P4).mono ?_; rintro e w5 ⟨rfl, hg5⟩
  have P5 := P4.fresh hg5
  have P6 := P5.fresh (alloc1 w5 (.cells #[.int .i64 qi, .int .i64 qg] 34))
  have c6 := heap_alloc_new w5 (.cells #[.int .i64 qi, .int .i64 qg] 34)
  have c5 := heap_fresh (heap_fresh c4 hg5) (alloc1 w5 (.cells #[.int .i64 qi, .int .i64 qg] 34))
  have g5 := (g3.trans (hg5.mono g3.size)).alloc (by have := g3.size; have := hg5.size; omega) (.cells #[.int .i64 qi, .int .i64 qg] 34)
  clear b0 b1 b2 b3 b4 x0 x1 c4
  obtain ⟨b0, b1, b2, b3, b4, x0, x1⟩ := CE.out _ P6
  go_wp2_with fail
  generalize w5.alloc (.cells #[.int .i64 qi, .int .i64 qg] 34) = W5 at *
  generalize w5.heap.size = z5 at *
  go_at_call 24; refine (T5.out _ P6).mono ?_; rintro e w7 ⟨rfl, hg7⟩
  have P7 := P6.fresh hg7
  have d3 := heap_fresh c5 hg7
  have d5 := heap_fresh c6 hg7
  have g7 := g5.trans (hg7.mono g5.size)
  have HB7 := Lib.hid (Arena.owns_fresh hB.out g7)
  have HA7 := Lib.hid (Arena.owns_fresh hA.out (hg2.trans (g7.mono hg2.size)))
  clear b0 b1 b2 b3 b4 x0 x1 c5 c6 T1 T2 T3 T4 T5 hA hB g3 g5
  obtain ⟨b0, b1, b2, b3, b4, x0, x1⟩ := CE.out _ P7
  go_wp2_with fail
  go_at_call 42; refine (I9.out _ _ _ _ _ HA7.out HB7.out (by omega)).mono ?_; rintro e w8 ⟨rfl, hg8⟩
  have P8 := P7.fresh hg8
  have e3 := Arena.pair (heap_fresh d3 hg8)
  have e5 := Arena.pair (heap_fresh d5 hg8)
  obtain ⟨m0, m1, _⟩ := e3
  obtain ⟨n0, n1, _⟩ := e5
  clear b0 b1 b2 b3 b4 x0 x1 d3 d5 HA7 HB7 g7 P1 P2 P3 P4 P5 P6 P7 hg1 hg2 hg3 hg5 hg7 hg8
  obtain ⟨b0, b1, b2, b3, b4, x0, x1⟩ := CE.out _ P8
  go_wp2_with fail
  have Q0 := P8.fresh (Below.refl w8.heap.size w8).drew
  have T6' := Lib.hid (T6.out _ Q0)
  clear T6 I9 P8
  go_region_held3 (fun w' => w'.cell? ⟨w.heap.size, 0, none⟩ = some (.int .i64 r) ∧ w'.cell? ⟨w.heap.size, 1, none⟩ = some v1 ∧ w'.cell? ⟨w.heap.size, 2, none⟩ = some v2 ∧ w'.cell? ⟨w.heap.size, 3, none⟩ = some v3 ∧ w'.cell? ⟨w.heap.size, 4, none⟩ = some v4 ∧ w'.cell? ⟨w.heap.size + 1, 0, none⟩ = some (.int .i64 i) ∧ w'.cell? ⟨w.heap.size + 1, 1, none⟩ = some (.int .i64 g)) (first | exact ⟨b0, b1, b2, b3, b4, x0, x1⟩ | exact ce)
    (first
      | (go_at_call 29; refine T6'.out.mono ?_; rintro e k1 ⟨vk1, rfl, R1, gk1⟩; have Q1 := Q0.fresh gk1; have ce := CE.out _ Q1)
      | (go_at_call 31; refine (T7.out _ Q1).mono ?_; rintro e k2 ⟨vk2, rfl, R2, gk2⟩; have R1' := Arena.owns_fresh R1 gk2; have Q2 := Q1.fresh gk2; have ce := CE.out _ Q2)
      | (go_at_call 15; (with_reducible refine (K9.out _ _ _ _ _ R1' R2).mono ?_); rintro e k3 ⟨rfl, gk3⟩; have Q3 := Q2.fresh gk3; have ce := CE.out _ Q3)
      | (go_at_call 43; refine (T8.out _ Q3).mono ?_; rintro e k4 ⟨vk4, rfl, R4, gk4⟩; have Q4 := Q3.fresh gk4; have ce := CE.out _ Q4)
      | (go_at_call 37; refine (T9.out _ Q4).mono ?_; rintro e k5 ⟨vk5, rfl, R5, gk5⟩; have R4' := Arena.owns_fresh R4 gk5; have Q5 := Q4.fresh gk5; have ce := CE.out _ Q5)
      | (go_at_call 15; (with_reducible refine (U9.out _ _ _ _ _ R4' R5).mono ?_); rintro e k6 ⟨rfl, gk6⟩; have Q6 := Q5.fresh gk6; have ce := CE.out _ Q6))
  go_wp2_with fail
  go_ret
  exact ⟨rfl, Q6.b⟩
end Go.Proofs.Ytanahddlnchioaa.Gt

/- Both trees, in memory, through a deed. Conditions: as each fact states them. -/
namespace Go.Proofs.Ytanahddlnchioaa.Gt
open Go.ChangeShapes Go.WideShapes Go.ChangeAt Go.RowKit Hp
set_option linter.unusedVariables false
set_option linter.unusedSimpArgs false
set_option maxRecDepth 100000

/-- What the law holds beside the tree. -/
def OS (w : World) (X H G : Nat) (vt v1 v2 v3 v4 : Value) : Nat → Prop := fun k => k < w.heap.size ∨ k = X ∨ k = H ∨ k = G ∨ vt.ownBlock = some k ∨ ∃ v ∈ [v1, v2, v3, v4], v.ownBlock = some k
structure GR (w : World) (tb b X H G : Nat) (N : Int) (st : St) (T : List (Int × Int)) (vt v1 v2 v3 v4 : Value) (W : World) : Prop where
  tr : Tre W tb b (OS w X H G vt v1 v2 v3 v4) st
  dc : Arena.RefAt w.heap.size v1 v2 v3 v4 (doc st) W
  box : W.heap[X]? = some (treO 32 v1 v2 v3 v4)
  snd : Snd N st
  row : W.ownsRow w.heap.size 34 2 vt T.length (cellsH T)
  pos : 0 < T.length
  old : w.heap.size ≤ X
  lt : H < W.heap.size ∧ G < W.heap.size
  s : Below w.heap.size w W
theorem type_ne {w : World} {B n s : Nat} {e t : TypeId} {v : Value} {xs : List Value} (h : w.ownsRow B e s v n xs) {k : Nat} {cur : Array Value} {f : Nat × Nat} (hk : w.heap[k]? = some (.cells cur t f)) (hne : e ≠ t) : v.ownBlock ≠ some k := by
  intro hb
  rcases h.2 with ⟨rfl, _⟩ | ⟨g, cap, cur', rfl, _, hg, _⟩
  · cases hb
  · simp [Value.ownBlock] at hb
    subst hb
    rw [hg] at hk
    simp at hk
    exact hne hk.2.1
/-- A tree whose blocks a row does not touch. -/
theorem Tre.fresh' {w w' : World} {tb b g : Nat} {O : Nat → Prop} {st : St} {cur : Array Value} (h : Tre w tb b O st) (hc : w.heap[g]? = some (.cells cur 34 (0, 0))) (hg : w.grownBy w' (some g)) : Tre w' tb b O st := by
  have hb : ∀ k, k < w.heap.size → k ≠ g → w'.heap[k]? = w.heap[k]? := fun k hk hne => hg.block k hk (by simpa using hne)
  obtain ⟨h1, h2, vp, vf, h3, h4, h5, h6⟩ := h
  have e1 : tb ≠ g := by rintro rfl; rw [h1] at hc; simp at hc
  have e2 : b ≠ g := by rintro rfl; rw [h3] at hc; simp at hc
  exact ⟨(hb tb (lt_of h1) e1).trans h1, h2, vp, vf, (hb b (lt_of h3) e2).trans h3, h4, h5.on fun k hk => hb k (h5.lt hk) (h5.apart hc (by decide) k hk), h6.on fun k hk => hb k (h6.lt hk) (h6.apart hc (by decide) k hk)⟩
section
variable {w W : World} {tb b X H G : Nat} {N : Int} {st : St} {T : List (Int × Int)} {vt v1 v2 v3 v4 : Value}
theorem GR.fresh (h : GR w tb b X H G N st T vt v1 v2 v3 v4 W) {W' : World} (hg : Below W.heap.size W W') : GR w tb b X H G N st T vt v1 v2 v3 v4 W' :=
  ⟨h.tr.fresh hg, h.dc.fresh hg, heap_fresh h.box hg, h.snd, Arena.owns_fresh h.row hg, h.pos, h.old, ⟨Nat.lt_of_lt_of_le h.lt.1 hg.size, Nat.lt_of_lt_of_le h.lt.2 hg.size⟩, h.s.trans (hg.mono h.s.size)⟩
theorem GR.rest (h : GR w tb b X H G N st T vt v1 v2 v3 v4 W) : GR w tb b X X X N st T vt v1 v2 v3 v4 W := by
  refine ⟨h.tr.other (fun k hk => .inl ?_), h.dc, h.box, h.snd, h.row, h.pos, h.old, ⟨lt_of h.box, lt_of h.box⟩, h.s⟩
  rcases hk with e | e | e | e | e | e
  · exact .inl e
  · exact .inr (.inl e)
  · exact .inr (.inl e)
  · exact .inr (.inl e)
  · exact .inr (.inr (.inr (.inr (.inl e))))
  · exact .inr (.inr (.inr (.inr (.inr e))))
theorem GR.move (h : GR w tb b X X X N st T vt v1 v2 v3 v4 W) {W' : World} (hg : Below W.heap.size W W') (h1 : W.heap.size ≤ H ∧ H < W'.heap.size) (h2 : W.heap.size ≤ G ∧ G < W'.heap.size) : GR w tb b X H G N st T vt v1 v2 v3 v4 W' := by
  refine ⟨(h.tr.other (O' := OS w X H G vt v1 v2 v3 v4) fun k hk => ?_).fresh hg, h.dc.fresh hg, heap_fresh h.box hg, h.snd, Arena.owns_fresh h.row hg, h.pos, h.old, ⟨h1.2, h2.2⟩, h.s.trans (hg.mono h.s.size)⟩
  rcases hk with e | e | e | e | e | e
  · exact .inl (.inl e)
  · exact .inl (.inr (.inl e))
  · exact .inr (by omega)
  · exact .inr (by omega)
  · exact .inl (.inr (.inr (.inr (.inr (.inl e)))))
  · exact .inl (.inr (.inr (.inr (.inr (.inr e)))))
theorem GR.os (h : GR w tb b X H G N st T vt v1 v2 v3 v4 W) : ∀ k, OS w X H G vt v1 v2 v3 v4 k → k < W.heap.size := by
  rintro k (e | e | e | e | e | ⟨v, hv, e⟩)
  · exact Nat.lt_of_lt_of_le e h.s.size
  · rw [e]; exact lt_of h.box
  · rw [e]; exact h.lt.1
  · rw [e]; exact h.lt.2
  · exact (h.row.lt k e).2
  · exact h.dc.low v hv k e
theorem put5_size (V : World) (x : Nat) (a0 a1 a2 a3 a4 : Value) : (put5 V x a0 a1 a2 a3 a4).heap.size = V.heap.size := by simp [put5, World.setCell]
theorem put5_but (V : World) (x : Nat) (a0 a1 a2 a3 a4 : Value) : But x V (put5 V x a0 a1 a2 a3 a4) := But.grown (Arena.set5_grown V x a0 a1 a2 a3 a4)
theorem put5_other (V : World) {x k : Nat} (hk : k < V.heap.size) (hne : k ≠ x) (a0 a1 a2 a3 a4 : Value) : (put5 V x a0 a1 a2 a3 a4).heap[k]? = V.heap[k]? :=
  (Arena.set5_grown V x a0 a1 a2 a3 a4).block k hk (by simpa using hne)
/-- What stands where the program's call left off; what stands behind the document's. -/
theorem GR.mid (h : GR w tb b X H G N st T vt v1 v2 v3 v4 W) {st' : St} {N' : Int} (hS : Snd N' st') {w3 : World} (ht : Tre w3 tb b (OS w X H G vt v1 v2 v3 v4) st') (hs : Same (OS w X H G vt v1 v2 v3 v4) W w3) :
    w3.heap[X]? = some (treO 32 v1 v2 v3 v4) ∧ w3.heap[H]? = W.heap[H]? ∧ w3.heap[G]? = W.heap[G]? ∧ Arena.RefAt w.heap.size v1 v2 v3 v4 (doc st) w3 ∧ w.heap.size ≤ w3.heap.size ∧
    Hid (∀ w4 u1 u2 u3 u4 V, Arena.RefAt w.heap.size u1 u2 u3 u4 (doc st') w4 → Arena.Near [u1, u2, u3, u4] [v1, v2, v3, v4] w3.heap.size → Below w3.heap.size w3 w4 → Below w4.heap.size w4 V →
      V.heap[X]? = some (treO 32 v1 v2 v3 v4) ∧ GR w tb b X H G N' st' T vt u1 u2 u3 u4 (put5 V X (.int .i64 32) u1 u2 u3 u4)) := by
  have OX : OS w X H G vt v1 v2 v3 v4 X := .inr (.inl rfl)
  have hX : w3.heap[X]? = some (treO 32 v1 v2 v3 v4) := (hs.block X OX).trans h.box
  have on : ∀ {e : TypeId} {sz : Nat} {v : Value} {n : Nat} {xs : List Value}, (∀ k, v.ownBlock = some k → OS w X H G vt v1 v2 v3 v4 k) → W.ownsRow w.heap.size e sz v n xs → w3.ownsRow w.heap.size e sz v n xs := fun hO hr => own_on hr fun k hk => hs.block k (hO k hk)
  have hv : ∀ v ∈ [v1, v2, v3, v4], ∀ k, v.ownBlock = some k → OS w X H G vt v1 v2 v3 v4 k := fun v hv k hk => .inr (.inr (.inr (.inr (.inr ⟨v, hv, hk⟩))))
  have hb3 : Below w.heap.size w w3 := h.s.trans (Same.below (hs.mono fun k hk => .inl hk))
  have hr3 : w3.ownsRow w.heap.size 34 2 vt T.length (cellsH T) := on (fun k hk => .inr (.inr (.inr (.inr (.inl hk))))) h.row
  refine ⟨hX, hs.block H (.inr (.inr (.inl rfl))), hs.block G (.inr (.inr (.inr (.inl rfl)))), ⟨on (hv v1 (by simp)) h.dc.o1, on (hv v2 (by simp)) h.dc.o2, on (hv v3 (by simp)) h.dc.o3, on (hv v4 (by simp)) h.dc.o4⟩, hb3.size, Lib.hid fun w4 u1 u2 u3 u4 V hR hN hg hV => ?_⟩
  have hgV := hg.trans (hV.mono hg.size)
  have hXV := heap_fresh hX hgV
  have hXV' : V.heap[X]? = some (.cells #[.int .i64 32, v1, v2, v3, v4] 31 (0, 0)) := hXV
  refine ⟨hXV, ?_⟩
  have hRV := hR.fresh hV
  have hrV := Arena.owns_fresh hr3 hgV
  have G5 := Arena.set5_grown V X (.int .i64 32) u1 u2 u3 u4
  have key : ∀ {e : TypeId} {sz : Nat} {v : Value} {n : Nat} {xs : List Value}, e ≠ 31 → V.ownsRow w.heap.size e sz v n xs → (put5 V X (.int .i64 32) u1 u2 u3 u4).ownsRow w.heap.size e sz v n xs := fun hne hr => hr.kept G5 (.inr (type_ne hr hXV' hne))
  have ht' : Tre V tb b (OS w X H G vt u1 u2 u3 u4) st' := by
    refine (ht.other fun k hk => ?_).fresh hgV
    rcases hk with e | e | e | e | e | ⟨u, hu, e⟩
    · exact .inl (.inl e)
    · exact .inl (.inr (.inl e))
    · exact .inl (.inr (.inr (.inl e)))
    · exact .inl (.inr (.inr (.inr (.inl e))))
    · exact .inl (.inr (.inr (.inr (.inr (.inl e)))))
    · rcases hN u hu k e with ⟨v, hv', hk'⟩ | hk'
      · exact .inl (hv v hv' k hk')
      · exact .inr hk'
  have hb0 : (put5 V X (.int .i64 32) u1 u2 u3 u4).heap[X]? = some (treO 32 u1 u2 u3 u4) := by
    have k1 := Arena.set_block hXV' 0 (.int .i64 32)
    have k2 := Arena.set_block k1 1 u1
    have k3 := Arena.set_block k2 2 u2
    have k4 := Arena.set_block k3 3 u3
    have k5 := Arena.set_block k4 4 u4
    simpa [put5, treO] using k5
  refine ⟨ht'.but (.inr (.inl rfl)) (put5_but V X _ _ _ _ _), ⟨key (by decide) hRV.o1, key (by decide) hRV.o2, key (by decide) hRV.o3, key (by decide) hRV.o4⟩, hb0, hS, key (by decide) hrV, h.pos, h.old, ?_, ?_⟩
  · rw [put5_size]
    have h1 := h.lt; have h2 := hs.size; have h3 := hgV.size
    omega
  · exact put5_below (hb3.trans (hgV.mono hb3.size)) h.old _ _ _ _ _
/-- One more that was told. -/
theorem GR.told (h : GR w tb b X H G N st T vt v1 v2 v3 v4 W) {g0 g c n0 : Nat} {W1 W2 : World} {p : Int × Int} (hv : vt = .slice (some ⟨g0, 0, none⟩) T.length n0) (h1 : Below W.heap.size W W1) (hg : W1.grownBy W2 (some g0)) (hgg : g = g0 ∨ g = W1.heap.size)
    (own : W2.ownsRow w.heap.size 34 2 (.slice (some ⟨g, 0, none⟩) (T.length + 1) c) (T.length + 1) (cellsH T ++ [.int .i64 p.1, .int .i64 p.2])) :
    GR w tb b X H G N st (T ++ [p]) (.slice (some ⟨g, 0, none⟩) (T.length + 1) c) v1 v2 v3 v4 W2 := by
  subst hv
  have hW1 := h.fresh h1
  have e0 : (Value.slice (some ⟨g0, 0, none⟩) T.length n0).ownBlock = some g0 := rfl
  obtain ⟨cur, hcur⟩ : ∃ cur, W1.heap[g0]? = some (.cells cur 34 (0, 0)) := by
    rcases hW1.row.2 with ⟨e, _⟩ | ⟨g', cap', cur, e, _, hh, _⟩
    · cases e
    · cases e; exact ⟨cur, hh⟩
  have hXn : X ≠ g0 := by
    rintro rfl
    have := hW1.box
    rw [hcur] at this
    simp [treO] at this
  have kept : ∀ {e : TypeId} {v : Value} {n : Nat} {xs : List Value}, e ≠ 34 → W1.ownsRow w.heap.size e 1 v n xs → W2.ownsRow w.heap.size e 1 v n xs := fun hne hr => hr.kept hg (.inr (type_ne hr hcur hne))
  have hlt := hW1.lt
  refine ⟨(hW1.tr.other (O' := OS w X H G (.slice (some ⟨g, 0, none⟩) (T.length + 1) c) v1 v2 v3 v4) fun k hk => ?_).fresh' hcur hg, ⟨kept (by decide) hW1.dc.o1, kept (by decide) hW1.dc.o2, kept (by decide) hW1.dc.o3, kept (by decide) hW1.dc.o4⟩, (hg.block X (lt_of hW1.box) (by simpa using hXn)).trans hW1.box, h.snd, ?_, by simp, h.old, ⟨Nat.lt_of_lt_of_le hlt.1 hg.size, Nat.lt_of_lt_of_le hlt.2 hg.size⟩, ?_⟩
  · rcases hk with e | e | e | e | e | e
    · exact .inl (.inl e)
    · exact .inl (.inr (.inl e))
    · exact .inl (.inr (.inr (.inl e)))
    · exact .inl (.inr (.inr (.inr (.inl e))))
    · have : g = k := by simpa [Value.ownBlock] using e
      subst this
      rcases hgg with rfl | hgg
      · exact .inl (.inr (.inr (.inr (.inr (.inl e0)))))
      · exact .inr (by omega)
    · exact .inl (.inr (.inr (.inr (.inr (.inr e)))))
  · rw [List.length_append, List.length_singleton, cellsH_append]
    simpa [cellsH] using own
  · exact (hW1.s.grown hg hW1.s.size (fun k hk => (hW1.row.lt k (e0.trans hk)).1))
end
end Go.Proofs.Ytanahddlnchioaa.Gt

/- Where the law begins: the document's new tree; a handle that was told. Conditions: as each fact states them. -/
namespace Go.Proofs.Ytanahddlnchioaa.Gt
open Go.ChangeShapes Go.WideShapes Go.ChangeAt Go.RowKit Hp
set_option linter.unusedVariables false
set_option linter.unusedSimpArgs false
set_option maxRecDepth 100000

def IsDoc (w : World) (e : Ending) (w' : World) : Prop := ∃ u1 u2 u3 u4, e = .returned (.agg #[.int .i64 32, u1, u2, u3, u4]) ∧ Arena.RefAt w.heap.size u1 u2 u3 u4 (doc st0) w' ∧ Below w.heap.size w w'
theorem doc_st0 : doc st0 = ⟨32, [⟨-1, true, 0⟩], []⟩ := rfl
set_option maxHeartbeats 2000000 in
theorem docNew (w : World) : Calls Try.prog 6 #[] w (IsDoc w) := by
  have PB := alloc1 w (treO 0 (.slice none 0 0) (.slice none 0 0) (.slice none 0 0) (.slice none 0 0))
  have NE := Lib.hid (fun W => Arena.refNew W 32 (by omega) (by omega))
  have PU := Lib.hid (fun W (hg : Below w.heap.size w W) => Arena.refPut_new W w.heap.size (.slice none 0 0) (.slice none 0 0) (.slice none 0 0) (.slice none 0 0) ⟨32, [], []⟩ (-1) ⟨World.ownsRow_nil _ _ _ _, World.ownsRow_nil _ _ _ _, World.ownsRow_nil _ _ _ _, World.ownsRow_nil _ _ _ _⟩ hg.size (by simp) (by simp) rfl (by simp))
  have HB := heap_alloc_new w (treO 0 (.slice none 0 0) (.slice none 0 0) (.slice none 0 0) (.slice none 0 0))
  have FIN : Hid (∀ W u1 u2 u3 u4, Below w.heap.size w W → w.heap.size < W.heap.size → W.heap[w.heap.size]? = some (treO 0 (.slice none 0 0) (.slice none 0 0) (.slice none 0 0) (.slice none 0 0)) → Arena.RefAt w.heap.size u1 u2 u3 u4 (doc st0) W → IsDoc w (.returned (.agg #[.int .i64 32, u1, u2, u3, u4])) (put5 W w.heap.size (.int .i64 32) u1 u2 u3 u4)) := Lib.hid fun W u1 u2 u3 u4 hg hs hX hR => by
    have G5 := Arena.set5_grown W w.heap.size (.int .i64 32) u1 u2 u3 u4
    have hX' : W.heap[w.heap.size]? = some (.cells #[.int .i64 0, .slice none 0 0, .slice none 0 0, .slice none 0 0, .slice none 0 0] 31 (0, 0)) := hX
    have key : ∀ {e : TypeId} {sz : Nat} {v : Value} {n : Nat} {xs : List Value}, e ≠ 31 → W.ownsRow w.heap.size e sz v n xs → (put5 W w.heap.size (.int .i64 32) u1 u2 u3 u4).ownsRow w.heap.size e sz v n xs := fun hne hr => hr.kept G5 (.inr (type_ne hr hX' hne))
    exact ⟨_, _, _, _, rfl, ⟨key (by decide) hR.o1, key (by decide) hR.o2, key (by decide) hR.o3, key (by decide) hR.o4⟩, put5_below hg (Nat.le_refl _) _ _ _ _ _⟩
  rw [doc_st0] at FIN
  unfold treO at PB HB FIN
  go_enter Try.func6, Try.ntmps6
  go_wp2_with fail
  have hs0 : w.heap.size < (w.alloc (.cells #[.int .i64 0, .slice none 0 0, .slice none 0 0, .slice none 0 0, .slice none 0 0] 31 (0, 0))).heap.size := by simp
  generalize w.alloc _ = W at *
  go_at_call 22; refine (NE.out _).mono ?_; rintro e w1 ⟨rfl, hg1⟩
  have hb1 := heap_fresh HB hg1
  have hg := PB.trans (hg1.mono PB.size)
  have hga := hg.alloc hg.size (.cells #[.int .i64 32, .slice none 0 0, .slice none 0 0, .slice none 0 0, .slice none 0 0] 29)
  have k7 := Arena.five (heap_alloc_new w1 (.cells #[.int .i64 32, .slice none 0 0, .slice none 0 0, .slice none 0 0, .slice none 0 0] 29))
  obtain ⟨k0, k1, k2, k3, k4, _⟩ := k7
  have hb2 := heap_fresh hb1 (alloc1 w1 (.cells #[.int .i64 32, .slice none 0 0, .slice none 0 0, .slice none 0 0, .slice none 0 0] 29))
  go_wp2_with fail
  have hs1 : w.heap.size < (w1.alloc (.cells #[.int .i64 32, .slice none 0 0, .slice none 0 0, .slice none 0 0, .slice none 0 0] 29)).heap.size := by have := hg1.size; simp; omega
  generalize w1.alloc (.cells #[.int .i64 32, .slice none 0 0, .slice none 0 0, .slice none 0 0, .slice none 0 0] 29) = W1 at *
  go_at_call 23; refine (PU.out _ hga).mono ?_; rintro e w2 ⟨u1, u2, u3, u4, rfl, hR, hN, hg2⟩
  obtain ⟨s1, c1, e1⟩ := Arena.owns_shape hR.o1
  obtain ⟨s2, c2, e2⟩ := Arena.owns_shape hR.o2
  obtain ⟨s3, c3, e3⟩ := Arena.owns_shape hR.o3
  obtain ⟨s4, c4, e4⟩ := Arena.owns_shape hR.o4
  simp only [List.nil_append, List.length_singleton, List.length_nil] at e1 e2 e3 e4 hR
  subst e1 e2 e3 e4
  have hV := alloc2 w2 (.cells #[.int .i64 32, .slice s1 1 c1, .slice s2 1 c2, .slice s3 1 c3, .slice s4 0 c4] 29) (.cells #[.int .i64 0, .int .i64 0] 34)
  have hb3 := heap_fresh (heap_fresh hb2 hg2) hV
  have m7 := Arena.five (heap_fresh (heap_alloc_new w2 (.cells #[.int .i64 32, .slice s1 1 c1, .slice s2 1 c2, .slice s3 1 c3, .slice s4 0 c4] 29)) (alloc1 (w2.alloc (.cells #[.int .i64 32, .slice s1 1 c1, .slice s2 1 c2, .slice s3 1 c3, .slice s4 0 c4] 29)) (.cells #[.int .i64 0, .int .i64 0] 34)))
  have hga3 := (hga.trans (hg2.mono hga.size)).trans (hV.mono (Nat.le_trans hga.size hg2.size))
  have F1 := Lib.hid (FIN.out _ _ _ _ _ hga3 (by have := hg2.size; have := hV.size; omega) hb3 (hR.fresh hV))
  obtain ⟨y0, y1, y2, y3, y4, yz⟩ := Arena.five hb3
  obtain ⟨m0, m1, m2, m3, m4, _⟩ := m7
  unfold put5 at F1
  clear FIN NE PU PB HB hb1 hb2 hb3 hga hga3 hg hg1 hg2 hV hR hN k0 k1 k2 k3 k4
  go_wp2_with fail
  refine bodyPost_ret (v := .agg #[.int .i64 32, .slice s1 1 c1, .slice s2 1 c2, .slice s3 1 c3, .slice s4 0 c4]) (by simp [results, Try.results6, go_sem, y0, y1, y2, y3, y4]) rfl ?_
  exact F1.out

def IsWhich (w : World) (e : Ending) (w' : World) : Prop := ∃ i g : Int, e = .returned (.agg #[.int .i64 i, .int .i64 g]) ∧ Below w.heap.size w w'
theorem whichs (w : World) (B : Nat) (vt : Value) (T : List (Int × Int)) (d : Int) (hT : w.ownsRow B 34 2 vt T.length (cellsH T)) (hp : 0 < T.length) (hl : T.length ≤ 4096) (hd : -9223372036854775808 ≤ d ∧ d ≤ 9223372036854775807) :
    Calls Try.prog 7 #[vt, .int .i64 d] w (IsWhich w) := by
  obtain ⟨x, hx0, hx1, hx⟩ : ∃ x : Int, 0 ≤ x ∧ x ≤ 9223372036854775807 ∧ x = if d < 0 then -(d + 1) else d := ⟨_, by split <;> omega, by split <;> omega, rfl⟩
  have hT1 : 0 < (T.length : Int) := by omega
  obtain ⟨j, hj⟩ := Int.eq_ofNat_of_zero_le (Int.emod_nonneg x (show (T.length : Int) ≠ 0 by omega))
  have hjT : j < T.length := by have := Int.emod_lt_of_pos x hT1; omega
  have hjT1 : (j : Int) < T.length := by omega
  have hkz1 : ¬ (T.length : Int) = 0 := by omega
  have hkz2 : ((T.length : Int) == 0) = false := by simpa using hkz1
  obtain ⟨p, hpj⟩ : ∃ p, T[j]? = some p := ⟨_, List.getElem?_eq_getElem hjT⟩
  obtain ⟨g, c, rfl, c0, c1⟩ := Arena.told_cell (show w.ownsRow B 34 2 vt T.length (Arena.cellsH T) from hT) hpj
  have hgg := alloc1 w (.cells #[.int .i64 0, .int .i64 0] 34)
  replace c0 := cell_alloc c0 (.cells #[.int .i64 0, .int .i64 0] 34)
  replace c1 := cell_alloc c1 (.cells #[.int .i64 0, .int .i64 0] 34)
  clear hT hpj hp
  by_cases h0 : d < 0
  · rw [if_pos h0] at hx
    obtain rfl : d = -x - 1 := by omega
    have hx1' : -x - 1 + 1 = -x := by omega
    clear hx
    go_enter Try.func7, Try.ntmps7
    go_wp2
    refine bodyPost_ret (v := .agg #[.int .i64 p.1, .int .i64 p.2]) (by simp [results, Try.results7, go_sem]) rfl ?_
    exact ⟨_, _, rfl, by go_grown⟩
  · rw [if_neg h0] at hx
    subst hx
    have h1 : 0 ≤ x := hx0
    go_enter Try.func7, Try.ntmps7
    go_wp2
    refine bodyPost_ret (v := .agg #[.int .i64 p.1, .int .i64 p.2]) (by simp [results, Try.results7, go_sem]) rfl ?_
    exact ⟨_, _, rfl, by go_grown⟩
end Go.Proofs.Ytanahddlnchioaa.Gt
