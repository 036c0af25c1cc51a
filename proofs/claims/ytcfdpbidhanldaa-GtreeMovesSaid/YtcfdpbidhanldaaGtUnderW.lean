/- The walk of GtreeUnder. Conditions: the arguments are a slice and an array of numbers of 8 bits. -/
import Derived.Test.YtcfdpbidhanldaaGtOrder
import Derived.Test.YtcfdpbidhanldaaGtGrown
namespace Go.Proofs.Ytcfdpbidhanldaa.Gt
open Go.ChangeShapes Go.WideShapes Go.ChangeAt Go.RowKit Hp
set_option linter.unusedVariables false
set_option linter.unusedSimpArgs false

theorem box3 {w : World} {b : Nat} {x y z : Value} {t : TypeId} (hb : w.heap[b]? = some (.cells #[x, y, z] t (0, 0))) : w.cell? ⟨b, 0, none⟩ = some x ∧ w.cell? ⟨b, 1, none⟩ = some y ∧ w.cell? ⟨b, 2, none⟩ = some z := by
  refine ⟨?_, ?_, ?_⟩
  all_goals rw [cell_of_row w b _ _ _ _ hb]; rfl
/-- Under of two that were told. -/
theorem Told.under {w0 w : World} {tb b : Nat} {st : St} {T : List (Int × Int)} {v : Value} (h : Told w0 tb b st T v w) {i g j k : Int} (hn : st.names i g = true) (hm : st.names j k = true) (r : Bool) (hr : isIn i g j k (upsOf st i g) = r) :
    Calls Try.prog 29 #[.pointer (some ⟨tb, 0, none⟩), .agg #[.int .i64 i, .int .i64 g], .agg #[.int .i64 j, .int .i64 k]] w (IsBool r w) := by
  have := Gt.under w tb b _ st i g j k _ h.tree h.inv.l1 (h.ok.ups hn).1
  rwa [hm, Bool.true_and, hr] at this
/-- What is asked for: which of those that were told. -/
theorem pick {T : List (Int × Int)} (hp : 0 < T.length) {y : Int} (h0 : 0 ≤ y) : ∃ (j : Nat) (p : Int × Int), y % (T.length : Int) = j ∧ (j : Int) < T.length ∧ T[j]? = some p := by
  obtain ⟨j, hj⟩ : ∃ j : Nat, y % (T.length : Int) = j := Int.eq_ofNat_of_zero_le (Int.emod_nonneg _ (by omega))
  have hjl : (j : Int) < T.length := by rw [← hj]; exact Int.emod_lt_of_pos _ (by omega)
  exact ⟨j, _, hj, hjl, List.getElem?_eq_getElem (show j < T.length by omega)⟩

/-- The tree, and three boxes of the caller's. -/
structure U3 (w w1 : World) (tb b : Nat) (st : St) (T : List (Int × Int)) (v : Value) (B0 B1 B2 : Nat) (x x' y y' c c' : Int) (W : World) : Prop where
  told : Told w1 tb b st T v W
  b0 : W.heap[B0]? = some (.cells #[.int .i64 x, .int .i64 x'] 34 (0, 0))
  b1 : W.heap[B1]? = some (.cells #[.int .i64 y, .int .i64 y'] 34 (0, 0))
  b2 : W.heap[B2]? = some (.cells #[.int .i64 c, .int .i64 c'] 34 (0, 0))
  below : Below w.heap.size w W
theorem U3.fresh {w w1 W W' : World} {tb b : Nat} {st : St} {T : List (Int × Int)} {v : Value} {B0 B1 B2 : Nat} {x x' y y' c c' : Int} (h : U3 w w1 tb b st T v B0 B1 B2 x x' y y' c c' W) (hg : Below W.heap.size W W') : U3 w w1 tb b st T v B0 B1 B2 x x' y y' c c' W' :=
  ⟨h.told.fresh hg, heap_fresh h.b0 hg, heap_fresh h.b1 hg, heap_fresh h.b2 hg, h.below.trans (hg.mono h.below.size)⟩
theorem U3.cells {w w1 W : World} {tb b : Nat} {st : St} {T : List (Int × Int)} {v : Value} {B0 B1 B2 : Nat} {x x' y y' c c' : Int} (h : U3 w w1 tb b st T v B0 B1 B2 x x' y y' c c' W) :
    W.cell? ⟨B0, 0, none⟩ = some (.int .i64 x) ∧ W.cell? ⟨B0, 1, none⟩ = some (.int .i64 x') ∧ W.cell? ⟨B1, 0, none⟩ = some (.int .i64 y) ∧ W.cell? ⟨B1, 1, none⟩ = some (.int .i64 y') ∧ W.cell? ⟨B2, 0, none⟩ = some (.int .i64 c) ∧ W.cell? ⟨B2, 1, none⟩ = some (.int .i64 c') :=
  ⟨(box2 h.b0).1, (box2 h.b0).2.1, (box2 h.b1).1, (box2 h.b1).2.1, (box2 h.b2).1, (box2 h.b2).2.1⟩
def UI (w w1 : World) (tb b : Nat) (st : St) (T : List (Int × Int)) (v : Value) (B0 B1 B2 : Nat) (x x' y y' c c' : Int) (L : List (Int × Int)) (lv : Value) (base left : Nat) (t15 t16 : Value) (wr : World) : Prop :=
  ∃ k : Nat, left + k = L.length ∧ t16 = .int .i64 k ∧ t15 = .bool (decide ((x, x') ∈ L.take k)) ∧ U3 w w1 tb b st T v B0 B1 B2 x x' y y' c c' wr ∧ wr.ownsRow base 34 2 lv L.length (cellsH L)
set_option maxHeartbeats 8000000 in
set_option maxRecDepth 100000 in
theorem under_as (v : Option Addr) (len cap : Nat) (z : Nat → Int) (y0 y1 y2 : Int) (w : World) (hlen : len ≤ 9223372036854775807) (hz : ∀ j, 0 ≤ z j ∧ z j ≤ 255)
    (hc : ∀ j, j < len → ∃ k off, v = some ⟨k, off, none⟩ ∧ k < w.heap.size ∧ w.cell? ⟨k, off + j, none⟩ = some (.int .u8 (z j))) (k0 : 0 ≤ y0 ∧ y0 ≤ 255) (k1 : 0 ≤ y1 ∧ y1 ≤ 255) (k2 : 0 ≤ y2 ∧ y2 ≤ 255) :
    Calls Try.prog 6 #[.slice v len cap, .agg #[.int .u8 y0, .int .u8 y1, .int .u8 y2]] w (Yes w) := by
  replace hc := Lib.hid hc
  replace hz := Lib.hid hz
  have hA := heap_alloc_new w (.cells #[.int .u8 y0, .int .u8 y1, .int .u8 y2] 66)
  go_enter Try.func6, Try.ntmps6
  go_wp2_with fail
  go_at_call 9; refine (awake _).mono ?_; rintro e w1 ⟨rfl, hg1⟩
  have hg := fresh_trans (alloc1 _ _) hg1
  replace hA := heap_fresh hA hg1
  clear hg1
  go_wp2_with fail
  go_at_call 23
  refine (grown_tree v len cap z w1 hlen hz.out (fun j hj => ?_)).mono ?_
  · obtain ⟨k, off, e1, e2, e3⟩ := hc.out j hj
    exact ⟨k, off, e1, Nat.lt_of_lt_of_le e2 hg.size, (hg.cell e2).trans e3⟩
  rintro e w2 ⟨tb, b, st, T, tv, rfl, hT, hTl⟩
  clear hc hz
  replace hA := heap_fresh hA hT.below
  obtain ⟨a0, a1, a2⟩ := box3 hA
  obtain ⟨j0, p0, e0, l0, hp0⟩ := pick hT.pos k0.1
  obtain ⟨j1, p1, e1, l1, hp1⟩ := pick hT.pos k1.1
  obtain ⟨j2, p2, e2, l2, hp2⟩ := pick hT.pos k2.1
  obtain ⟨g, cp, rfl, t0, t0', n0, -⟩ := hT.at hp0
  obtain ⟨g', cp', e', t1, t1', n1, -⟩ := hT.at hp1
  cases e'
  obtain ⟨g', cp', e', t2, t2', n2, -⟩ := hT.at hp2
  cases e'
  have hTp : (0 : Int) < T.length := by have := hT.pos; omega
  have hTq : (T.length : Int) ≤ 41 := by omega
  have hgT := Lib.hid (hg.trans (hT.below.mono hg.size))
  clear hp0 hp1 hp2 hA hg hTl
  obtain ⟨x, x'⟩ := p0
  obtain ⟨y, y'⟩ := p1
  obtain ⟨c, c'⟩ := p2
  simp only at *
  go_upto_region 6 with fail
  have b0 := heap_alloc_new w2 (.cells #[.int .i64 x, .int .i64 x'] 34)
  replace hT := hT.fresh (alloc1 w2 (.cells #[.int .i64 x, .int .i64 x'] 34))
  replace hgT := Lib.hid (hgT.out.alloc hgT.out.size (.cells #[.int .i64 x, .int .i64 x'] 34))
  replace a1 := cell_alloc a1 (.cells #[.int .i64 x, .int .i64 x'] 34)
  replace a2 := cell_alloc a2 (.cells #[.int .i64 x, .int .i64 x'] 34)
  replace t1 := cell_alloc t1 (.cells #[.int .i64 x, .int .i64 x'] 34)
  replace t1' := cell_alloc t1' (.cells #[.int .i64 x, .int .i64 x'] 34)
  replace t2 := cell_alloc t2 (.cells #[.int .i64 x, .int .i64 x'] 34)
  replace t2' := cell_alloc t2' (.cells #[.int .i64 x, .int .i64 x'] 34)
  clear a0 t0 t0'
  generalize w2.alloc (.cells #[.int .i64 x, .int .i64 x'] 34) = W0 at *
  generalize w2.heap.size = B0 at *
  go_upto_region 7 with fail
  have b1 := heap_alloc_new W0 (.cells #[.int .i64 y, .int .i64 y'] 34)
  replace b0 := heap_fresh b0 (alloc1 W0 (.cells #[.int .i64 y, .int .i64 y'] 34))
  replace hT := hT.fresh (alloc1 W0 (.cells #[.int .i64 y, .int .i64 y'] 34))
  replace hgT := Lib.hid (hgT.out.alloc hgT.out.size (.cells #[.int .i64 y, .int .i64 y'] 34))
  replace a2 := cell_alloc a2 (.cells #[.int .i64 y, .int .i64 y'] 34)
  replace t2 := cell_alloc t2 (.cells #[.int .i64 y, .int .i64 y'] 34)
  replace t2' := cell_alloc t2' (.cells #[.int .i64 y, .int .i64 y'] 34)
  clear a1 t1 t1'
  generalize W0.alloc (.cells #[.int .i64 y, .int .i64 y'] 34) = W1 at *
  generalize W0.heap.size = B1 at *
  go_upto_region 8 with fail
  have b2 := heap_alloc_new W1 (.cells #[.int .i64 c, .int .i64 c'] 34)
  replace hgT := Lib.hid (hgT.out.alloc hgT.out.size (.cells #[.int .i64 c, .int .i64 c'] 34))
  have hU : U3 w w1 tb b st T (.slice (some ⟨g, 0, none⟩) T.length cp) B0 B1 W1.heap.size x x' y y' c c' (W1.alloc (.cells #[.int .i64 c, .int .i64 c'] 34)) :=
    ⟨hT.fresh (alloc1 _ _), heap_fresh b0 (alloc1 _ _), heap_fresh b1 (alloc1 _ _), b2, hgT.out⟩
  clear a2 t2 t2' b0 b1 b2 hT hgT e0 e1 e2 l0 l1 l2 k0 k1 k2
  generalize W1.alloc (.cells #[.int .i64 c, .int .i64 c'] 34) = W2 at *
  generalize W1.heap.size = B2 at *
  have hok := Lib.hid hU.told.ok
  have hst := hU.told.inv.l1
  obtain ⟨r1, hr1⟩ : ∃ r, isIn x x' y y' (upsOf st x x') = r := ⟨_, rfl⟩
  obtain ⟨r2, hr2⟩ : ∃ r, isIn y y' x x' (upsOf st y y') = r := ⟨_, rfl⟩
  obtain ⟨r3, hr3⟩ : ∃ r, isIn y y' c c' (upsOf st y y') = r := ⟨_, rfl⟩
  replace hr1 := Lib.hid hr1
  replace hr2 := Lib.hid hr2
  replace hr3 := Lib.hid hr3
  obtain ⟨q0, q1, q2, q3, q4, q5⟩ := hU.cells
  go_wp2_with fail
  go_at_call 29; refine (hU.told.under n0 n1 r1 hr1.out).mono ?_; rintro e W3 ⟨rfl, h3⟩
  replace hU := hU.fresh h3; clear h3 q0 q1 q2 q3 q4 q5; obtain ⟨q0, q1, q2, q3, q4, q5⟩ := hU.cells
  go_wp2_with fail
  go_at_call 29; refine (hU.told.under n1 n0 r2 hr2.out).mono ?_; rintro e W4 ⟨rfl, h3⟩
  replace hU := hU.fresh h3; clear h3 q0 q1 q2 q3 q4 q5; obtain ⟨q0, q1, q2, q3, q4, q5⟩ := hU.cells
  go_wp2_with fail
  go_at_call 29; refine (hU.told.under n1 n2 r3 hr3.out).mono ?_; rintro e W5 ⟨rfl, h3⟩
  replace hU := hU.fresh h3; clear h3 q0 q1 q2 q3 q4 q5; obtain ⟨q0, q1, q2, q3, q4, q5⟩ := hU.cells
  go_upto_region 11 with fail
  go_cut [99] (fun s wc => s = .bool false ∧ U3 w w1 tb b st T (.slice (some ⟨g, 0, none⟩) T.length cp) B0 B1 B2 x x' y y' c c' wc)
  case first =>
    have hrt := hok.out.root
    have hX := Lib.hid (isIn_self x x' (upsOf st x x'))
    have hR := Lib.hid (isIn_root (hok.out.ups n0).1)
    have anti := Lib.hid (fun (a : r1 = true) (b : r2 = true) => isIn_anti (hok.out.ups n0).1 (hok.out.ups n1).1 (hr1.out.trans a) (hr2.out.trans b))
    have tr := Lib.hid (fun (a : r1 = true) (b : r3 = true) => isIn_trans (hok.out.ups n0).1 (hok.out.ups n1).1 (hr1.out.trans a) (hr3.out.trans b))
    clear hr1 hr2 hr3
    cases r1 <;> cases r2 <;> cases r3
    all_goals
      try (have tr' := Lib.hid (tr.out rfl rfl))
      try (obtain ⟨rfl, rfl⟩ := anti.out rfl rfl)
      clear anti tr
      go_wp2_with fail
      go_at_call 29; refine (hU.told.under n0 n0 true hX.out).mono ?_; rintro e W6 ⟨rfl, h3⟩
      replace hU := hU.fresh h3; clear h3 q0 q1 q2 q3 q4 q5; obtain ⟨q0, q1, q2, q3, q4, q5⟩ := hU.cells
      go_wp2_with fail
      go_at_call 29; refine (hU.told.under n0 hrt true hR.out).mono ?_; rintro e W7 ⟨rfl, h3⟩
      replace hU := hU.fresh h3; clear h3 q0 q1 q2 q3 q4 q5; obtain ⟨q0, q1, q2, q3, q4, q5⟩ := hU.cells
      go_wp2_with fail
      try (go_at_call 29; refine (hU.told.under n0 n2 true tr'.out).mono ?_; rintro e W8 ⟨rfl, h3⟩; replace hU := hU.fresh h3; go_wp2_with fail)
      go_meet
      case rel => exact ⟨rfl, hU⟩
  case rest =>
    clear q0 q1 q2 q3 q4 q5 hU hr2 hr3
    obtain ⟨rfl, hU⟩ := hcut
    obtain ⟨q0, q1, q2, q3, q4, q5⟩ := hU.cells
    have BE := Lib.hid (below wc tb b _ st y y' hU.told.tree hst hok.out)
    have hmem : decide ((x, x') ∈ (hs st.pl st.pl.length).filter fun q => under? st q.1 q.2 y y') = r1 := by
      rw [← hr1.out]; simp [List.mem_filter, named_hs n0, under?, n0, n1]
    have hLl : ((hs st.pl st.pl.length).filter fun q => under? st q.1 q.2 y y').length ≤ 4096 := Nat.le_trans (List.length_filter_le _ _) (Nat.le_trans (hs_le _ _) hst)
    generalize ((hs st.pl st.pl.length).filter fun q => under? st q.1 q.2 y y') = L at *
    replace hmem := Lib.hid hmem
    clear hr1
    go_wp2_with fail
    go_at_call 27; refine BE.out.mono ?_; rintro e w7 ⟨lv, rfl, hown, h7⟩
    replace hU := hU.fresh h7
    clear h7 BE q0 q1 q2 q3 q4 q5
    obtain ⟨ao, c2, rfl⟩ : ∃ ao c2, lv = .slice ao L.length c2 := by
      rcases hown.2 with ⟨e, e2⟩ | ⟨_, _, _, e, _⟩
      · exact ⟨none, 0, by rw [e, e2]⟩
      · exact ⟨_, _, e⟩
    generalize wc.heap.size = base at hown
    go_wp2_with fail
    go_loopg [15, 16] L.length (fun left t15 t16 wr => UI w w1 tb b st T (.slice (some ⟨g, 0, none⟩) T.length cp) B0 B1 B2 x x' y y' c c' L (.slice ao L.length c2) base left t15 t16 wr)
    case atStart => exact ⟨0, by omega, rfl, by simp, hU, hown⟩
    case round =>
      clear hU hown
      obtain ⟨k, hk, rfl, rfl, hU, ho⟩ := hrel
      by_cases hlt : k < L.length
      · obtain ⟨q, hq⟩ : ∃ q, L[k]? = some q := ⟨_, List.getElem?_eq_getElem hlt⟩
        obtain ⟨g3, c3, e3, -⟩ := ho.form (by omega)
        cases e3
        obtain ⟨m0, m1⟩ := cellsH_at' hq
        have s0 := ho.cellAt (k * 2) (by omega)
        have s1 := ho.cellAt (k * 2 + 1) (by omega)
        rw [m0] at s0
        rw [m1] at s1
        obtain ⟨q0, q1, -⟩ := hU.cells
        have qk : (k : Int) < L.length := by omega
        have ht : decide ((x, x') ∈ L.take (k + 1)) = (decide ((x, x') ∈ L.take k) || decide ((x, x') = q)) := by
          rw [List.take_add_one, hq]; simp [Bool.decide_or]
        obtain ⟨qx, qy⟩ := q
        simp only at *
        have F : Hid (∀ f n, decide ((x, x') ∈ L.take (k + 1)) = f → UI w w1 tb b st T (.slice (some ⟨g, 0, none⟩) T.length cp) B0 B1 B2 x x' y y' c c' L (.slice (some ⟨g3, 0, none⟩) L.length c2) base (L.length - (k + 1)) (.bool f) (.int .i64 ((k : Int) + 1)) (wr.drewN n)) := fun f n hf =>
          ⟨k + 1, by omega, by simp, by rw [hf], hU.fresh (drawn _ _), owns_fresh ho (drawn _ _)⟩
        have hm : L.length - (k + 1) < gk := by omega
        cases hf : decide ((x, x') ∈ L.take k)
        · rw [hf, Bool.false_or] at ht
          replace ht := Lib.hid ht
          clear hU ho hf hk
          cases hcx : (qx == x) <;> cases hcy : (qy == x')
          case' true.true => obtain rfl : qx = x := by simpa using hcx
          case' true.false => obtain rfl : qx = x := by simpa using hcx
          case' true.true => obtain rfl : qy = x' := by simpa using hcy
          case' false.true => obtain rfl : qy = x' := by simpa using hcy
          case' false.false => have hcx' : ¬ qx = x := by simpa using hcx
          case' false.false => have hcy' : ¬ qy = x' := by simpa using hcy
          case' false.true => have hcx' : ¬ qx = x := by simpa using hcx
          case' true.false => have hcy' : ¬ qy = x' := by simpa using hcy
          all_goals
            go_wp2_with fail
            go_quiet (fail)
            go_wp2_with fail
            go_roundg (L.length - (k + 1))
            case measure => exact hm
            case rel => exact F.out _ _ (by rw [ht.out]; simp <;> (try (intro e; simp_all)))
        · rw [hf, Bool.true_or] at ht
          replace ht := Lib.hid ht
          clear hU ho hf hk
          go_wp2_with fail
          go_quiet (fail)
          go_wp2_with fail
          go_roundg (L.length - (k + 1))
          case measure => exact hm
          case rel => exact F.out _ _ ht.out
      · obtain rfl : k = L.length := by omega
        rw [List.take_length, hmem.out]
        have hb := hU.below
        clear hU ho
        cases r1
        all_goals
          go_wp2_with fail
          go_ret
          exact ⟨rfl, hb⟩
theorem underLaw (v : Option Addr) (len cap : Nat) (zs : List Int) (y0 y1 y2 : Int) (w : World) (hlen : len ≤ 9223372036854775807) (hz : ∀ n ∈ zs, (Lit.int .u8 n).wf = true)
    (hc : ∀ j, j < len → ∃ k off, v = some ⟨k, off, none⟩ ∧ k < w.heap.size ∧ w.cell? ⟨k, off + j, none⟩ = some (.int .u8 (zs[j]?.getD 0))) (k0 : 0 ≤ y0 ∧ y0 ≤ 255) (k1 : 0 ≤ y1 ∧ y1 ≤ 255) (k2 : 0 ≤ y2 ∧ y2 ≤ 255) :
    Calls Try.prog 6 #[.slice v len cap, .agg #[.int .u8 y0, .int .u8 y1, .int .u8 y2]] w (Yes w) := by
  refine under_as v len cap (fun j => zs[j]?.getD 0) y0 y1 y2 w hlen (fun j => ?_) hc k0 k1 k2
  show 0 ≤ zs[j]?.getD 0 ∧ zs[j]?.getD 0 ≤ 255
  cases h : zs[j]? with
  | none => simp
  | some z => exact bounds_u8 (hz z (List.mem_of_getElem? h))
end Go.Proofs.Ytcfdpbidhanldaa.Gt
