/- What Move of package hier does. Conditions: the queues are sound and settled. -/
import Derived.Test.YteoemafdknmklaaPkL
namespace Go.Proofs.Yteoemafdknmklaa.Hr
open Go.ChangeShapes Go.WideShapes Go.ChangeAt Go.RowKit Tree Queue
set_option linter.unusedVariables false
set_option linter.unusedSimpArgs false
set_option maxRecDepth 100000

theorem deep1_ (w : World) (h : Nat) (O : Nat → Prop) (b qb : Nat → Nat) (S : Hs) (H : Hb w h O b qb S) {dep : Nat → Nat} (hG : GoodD dep S) {i : Nat} {x : Gp} (hx : S.g i = some x) (Bd : Nat) (d : Int) (hd : -20 ≤ d ∧ d ≤ 20)
    (hB : w.cell? ⟨Bd, 0, none⟩ = some (.int .i64 d)) (hBl : Bd < w.heap.size) :
    Calls Try.prog 25 #[.pointer (some ⟨b i, 0, none⟩), .pointer (some ⟨Bd, 0, none⟩)] w (Is (.bool (deepAt S d i)) w) := by
  have hd8 := hG.deep i x hx
  have DP := Lib.hid (fun w1 (hg : Below w.heap.size w w1) => depth_ w1 h O b qb S (H.fresh hg) hG hx)
  unfold deepAt
  rw [hG.depth 9 hx (by omega)]
  clear H hG hx
  generalize dep i = n at *
  have hw : IntKind.i64.wrap ((n : Int) + d) = (n : Int) + d := by rw [IntKind.wrap_i64]; omega
  by_cases h8 : 8 < (n : Int) + d
  · rw [decide_eq_true h8]
    have h9 : decide (8 < (n : Int) + d) = true := decide_eq_true h8
    go_enter Try.func25, Try.ntmps25
    go_wp2_with fail
    go_region_held3 (fun w' => w'.cell? ⟨Bd, 0, none⟩ = some (.int .i64 d)) (first | exact hB | exact l0)
      (first
        | (go_at_call 18; refine (DP.out _ (drew_below _)).mono ?_; rintro e w1 ⟨rfl, hg1⟩; replace hg1 := undrew hg1; have l0 := (hg1.cell (p := ⟨Bd, 0, none⟩) hBl).trans hB))
    go_wp2_with fail
    go_ret; exact ⟨by simp_all, hg1⟩
  · rw [decide_eq_false h8]
    have h9 : decide (8 < (n : Int) + d) = false := decide_eq_false h8
    go_enter Try.func25, Try.ntmps25
    go_wp2_with fail
    go_region_held3 (fun w' => w'.cell? ⟨Bd, 0, none⟩ = some (.int .i64 d)) (first | exact hB | exact l0)
      (first
        | (go_at_call 18; refine (DP.out _ (drew_below _)).mono ?_; rintro e w1 ⟨rfl, hg1⟩; replace hg1 := undrew hg1; have l0 := (hg1.cell (p := ⟨Bd, 0, none⟩) hBl).trans hB))
    go_wp2_with fail
    go_ret; exact ⟨by simp_all, hg1⟩
theorem move_same {S : Hs} {i p p' : Nat} {x : Gp} (m n : Int) (h : S.g i = some x) : movedG x p m n = { x with up := some p, own := { x.own with v := Renorm.move x.own.v m n } } := rfl
theorem Hb.cell4 {w : World} {h : Nat} {O : Nat → Prop} {b qb : Nat → Nat} {S : Hs} (H : Hb w h O b qb S) {i p t : Nat} {x y z : Gp} (hx : S.g i = some x) (hp : x.up = some p) (hy : S.g p = some y) (hz : S.g t = some z) :
    w.cell? ⟨b i, 0, none⟩ = some (.pointer (some ⟨b p, 0, none⟩)) ∧ w.cell? ⟨b i, 4, none⟩ = some (.int .i64 x.own.v) ∧ w.cell? ⟨b p, 1, none⟩ = some (.pointer (some ⟨qb p, 0, none⟩)) ∧ w.cell? ⟨b t, 1, none⟩ = some (.pointer (some ⟨qb t, 0, none⟩)) ∧ w.frozen? ⟨b i, 4, none⟩ = false ∧ w.frozen? ⟨b i, 0, none⟩ = false ∧ ¬ O (b i) := by
  obtain ⟨c0, c1, c2, c3, c4, c5, c6, c7, cf⟩ := H.cells hx
  obtain ⟨_, d1, _⟩ := H.cells hy
  obtain ⟨_, e1, _⟩ := H.cells hz
  rw [hp] at c0
  exact ⟨c0, c4, d1, e1, cf 4, cf 0, H.apart hx⟩
set_option maxHeartbeats 16000000 in
theorem move_ (w : World) (h : Nat) (O : Nat → Prop) (b qb : Nat → Nat) (S : Hs) (H : Hb w h O b qb S) (hO : ∀ k, O k → k < w.heap.size) {dep : Nat → Nat} (hG : GoodD dep S) (g parent : Int) :
    Calls Try.prog 7 #[.pointer (some ⟨h, 0, none⟩), .int .i64 g, .int .i64 parent] w (DidH (.int .i64 (errMoveH S g parent)) (moveH S g parent) h O b qb w) := by
  have A := Lib.hid (linked_ w h O b qb S H g)
  have B := Lib.hid (fun w1 (hg : Below w.heap.size w w1) => at_ w1 h O b qb S (H.fresh hg) parent)
  have HO := Lib.hid hO
  have K0 := Lib.hid H
  have CL : Hid (∀ er, errMoveH S g parent = er → er ≠ 0 → ∀ w1, Below w.heap.size w w1 → DidH (.int .i64 (errMoveH S g parent)) (moveH S g parent) h O b qb w (.returned (.int .i64 er)) w1) := Lib.hid fun er he hne w1 hg => by
    rw [he]
    refine ⟨rfl, ?_, same_of HO.out hg⟩
    unfold moveH
    rw [if_neg (by rw [he]; exact hne)]
    exact K0.out.fresh hg
  rcases lnk_cases S g with ⟨i, x, rfl, h0, hi, hx, e1, e2⟩ | ⟨e1, e2⟩
  · rw [e2] at A
    rcases grp_cases S parent with ⟨t, z, rfl, ht, hz, f1, f2⟩ | ⟨f1, f2⟩
    · rw [f2] at B
      have er0 : errMoveH S i t = if underS 9 S t i then 10 else if (belowL S i 32).any (busyAt S) then 6 else if (belowL S i 32).any (deepAt S ((depthS 9 S t : Int) + 1 - depthS 9 S i)) then 5 else 0 := by unfold errMoveH; rw [e1, f1]; simp
      have UN := Lib.hid (fun w1 (hg : Below w.heap.size w w1) => under_ w1 h O b qb S (H.fresh hg) hG hz hx)
      cases hun : underS 9 S t i
      · rw [hun] at er0 UN
        simp only [Bool.false_eq_true, if_false] at er0
        have BL := Lib.hid (fun w1 (hg : Below w.heap.size w w1) => below_ w1 h O b qb S (H.fresh hg) hG hx)
        have hlen := below_len S i 32
        have hmem := below_mem S i 32
        have CB : Hid (∀ v O' w1, Below w.heap.size w w1 → Mem.Row w1 O' 38 1 v (belowL S i 32).length (ptrsG b (belowL S i 32)) → Calls Try.prog 23 #[v, .func (.func 24) #[] #[]] w1 (Is (.bool ((belowL S i 32).any (busyAt S))) w1)) := by
          refine Lib.hid fun v O' w1 hg hr => containsB_ w1 b _ (busyAt S) v O' hr hlen fun j hj w2 hg2 => ?_
          obtain ⟨y, hy⟩ := Option.isSome_iff_exists.1 (hmem j hj).2.1
          have := busy_ w2 h O b qb S ((H.fresh hg).fresh hg2) j y hy (hG.q j y hy)
          unfold busyAt
          rw [hy]
          exact this
        cases hbu : (belowL S i 32).any (busyAt S)
        · rw [hbu] at er0 CB
          simp only [Bool.false_eq_true, if_false] at er0
          have hd1 := hG.deep t z hz
          have hd2 := hG.deep i x hx
          rw [hG.depth 9 hz (by omega), hG.depth 9 hx (by omega)] at er0
          have D1 := Lib.hid (fun w1 (hg : Below w.heap.size w w1) => depth_ w1 h O b qb S (H.fresh hg) hG hz)
          have D2 := Lib.hid (fun w1 (hg : Below w.heap.size w w1) => depth_ w1 h O b qb S (H.fresh hg) hG hx)
          obtain ⟨dd, hdd⟩ : ∃ dd : Int, dd = (dep t : Int) + 1 - dep i := ⟨_, rfl⟩
          rw [← hdd] at er0
          have hddb : -20 ≤ dd ∧ dd ≤ 20 := by omega
          have CD : Hid (∀ v O' Bd w1, Below w.heap.size w w1 → w1.cell? ⟨Bd, 0, none⟩ = some (.int .i64 dd) → Bd < w1.heap.size → Mem.Row w1 O' 38 1 v (belowL S i 32).length (ptrsG b (belowL S i 32)) → Calls Try.prog 23 #[v, .func (.func 25) #[] #[.pointer (some ⟨Bd, 0, none⟩)]] w1 (Is (.bool ((belowL S i 32).any (deepAt S dd))) w1)) := by
            refine Lib.hid fun v O' Bd w1 hg hc hl hr => containsD_ w1 b _ (deepAt S dd) v Bd O' hr hlen fun j hj w2 hg2 => ?_
            obtain ⟨y, hy⟩ := Option.isSome_iff_exists.1 (hmem j hj).2.1
            exact deep1_ w2 h O b qb S ((H.fresh hg).fresh hg2) hG hy Bd dd hddb ((hg2.cell (p := ⟨Bd, 0, none⟩) hl).trans hc) (Nat.lt_of_lt_of_le hl hg2.size)
          have hw1 : IntKind.i64.wrap ((dep t : Int) + 1) = (dep t : Int) + 1 := by rw [IntKind.wrap_i64]; omega
          have hw2 : IntKind.i64.wrap ((dep t : Int) + 1 - dep i) = dd := by rw [hdd, IntKind.wrap_i64]; omega
          have hmf : ∀ (fn : Fn) (first cap : Array Value) (w : World), (Instr.makeFunc fn first cap).run Try.prog w = .ok (.func fn first cap) w := fun _ _ _ _ => rfl
          cases hdp : (belowL S i 32).any (deepAt S dd)
          · rw [hdp] at er0 CD
            simp only [Bool.false_eq_true, if_false] at er0
            obtain ⟨p, y, hp, hy, hdy⟩ := hG.link i x hx h0
            have hS : moveH S i t = S.set i (some (movedG x t y.q.min z.q.min)) := by
              unfold moveH
              rw [if_pos er0, e1]
              simp [minOf, hp, hy, hz]
            rw [er0, hS]
            have MV := Lib.hid (fun w1 => Renorm.moves x.own.v y.q.min z.q.min w1 (hG.own i x hx h0).2.2.2.2.2 (hG.q p y hy).min (hG.q t z hz).min)
            have MP := Lib.hid (fun w1 (hg : Below w.heap.size w w1) => minss w1 (qb p) _ y.q (que_at (H.fresh hg) hy))
            have MT := Lib.hid (fun w1 (hg : Below w.heap.size w w1) => minss w1 (qb t) _ z.q (que_at (H.fresh hg) hz))
            have C4 : Hid (∀ w1, Below w.heap.size w w1 → w1.cell? ⟨b i, 0, none⟩ = some (.pointer (some ⟨b p, 0, none⟩)) ∧ w1.cell? ⟨b i, 4, none⟩ = some (.int .i64 x.own.v) ∧ w1.cell? ⟨b p, 1, none⟩ = some (.pointer (some ⟨qb p, 0, none⟩)) ∧ w1.cell? ⟨b t, 1, none⟩ = some (.pointer (some ⟨qb t, 0, none⟩)) ∧ w1.frozen? ⟨b i, 4, none⟩ = false ∧ w1.frozen? ⟨b i, 0, none⟩ = false ∧ ¬ O (b i)) := Lib.hid fun w1 hg => (K0.out.fresh hg).cell4 hx hp hy hz
            have PU : Hid (∀ w1, Below w.heap.size w w1 → Hb ((w1.setCell ⟨b i, 4, none⟩ (.int .i64 (Renorm.move x.own.v y.q.min z.q.min))).setCell ⟨b i, 0, none⟩ (.pointer (some ⟨b t, 0, none⟩))) h O b qb (S.set i (some (movedG x t y.q.min z.q.min)))) := Lib.hid fun w1 hg => by
              have k1 := (K0.out.fresh hg).put hx (x' := { x with own := { x.own with v := Renorm.move x.own.v y.q.min z.q.min } }) rfl 4 (.int .i64 (Renorm.move x.own.v y.q.min z.q.min)) rfl
              have k2 := k1.put (Hs.set_same _ _ _) (x' := movedG x t y.q.min z.q.min) rfl 0 (.pointer (some ⟨b t, 0, none⟩)) rfl
              rw [set_set] at k2
              exact k2
            clear CL er0 H hO hG e1 e2 f1 f2 hx hz hy hun hbu hdp hmem hS hdd K0 hdy hp
            generalize S.set i (some (movedG x t y.q.min z.q.min)) = S1 at *
            generalize Renorm.move x.own.v y.q.min z.q.min = nv at *
            generalize Renorm.moveO x.own.v y.q.min z.q.min = no at *
            generalize x.own.v = ov at *
            generalize y.q.min = ym at *
            generalize z.q.min = zm at *
            generalize dep t = dt at *
            generalize dep i = di at *
            unfold Belows at BL
            generalize ptrsG b (belowL S i 32) = xs at *
            generalize (belowL S i 32).length = ln at *
            go_enter Try.func7, Try.ntmps7
            go_wp2_with (first
              | (go_at_call 20; refine A.out.mono ?_; rintro e w1 ⟨rfl, hg⟩)
              | (go_at_call 16; refine (B.out _ hg).mono ?_; rintro e w2 ⟨rfl, hg2⟩; replace hg := ft hg hg2; clear hg2)
              | (go_at_call 21; refine (UN.out _ hg).mono ?_; rintro e w3 ⟨rfl, hg3⟩; replace hg := ft hg hg3; clear hg3)
              | (go_at_call 22; refine (BL.out _ hg).mono ?_; rintro e w4 ⟨v, rfl, hr4, hg4⟩; replace hg := ft hg hg4; clear hg4; obtain ⟨ao, cap, rfl⟩ := Mem.owns_shape hr4.1; have R4 := Lib.hid hr4; clear hr4)
              | (go_at_call 23; refine (CB.out _ _ _ hg R4.out).mono ?_; rintro e w5 ⟨rfl, hg5⟩; replace hg := ft hg hg5; have R5 := Lib.hid (R4.out.fresh hg5); clear hg5 CB R4)
              | (go_at_call 18; refine (D1.out _ hg).mono ?_; rintro e w6 ⟨rfl, hg6⟩; replace hg := ft hg hg6; have R6 := Lib.hid (R5.out.fresh hg6); clear hg6 D1 R5)
              | (go_at_call 18; refine (D2.out _ hg).mono ?_; rintro e w7 ⟨rfl, hg7⟩; replace hg := ft hg hg7; have R7 := Lib.hid (R6.out.fresh hg7); clear hg7 D2 R6; have R8 := Lib.hid (R7.out.fresh (alloc1 w7 (.cells #[.int .i64 dd] 3))); have hb8 : (w7.alloc (.cells #[.int .i64 dd] 3)).heap[w7.heap.size]? = some (.cells #[.int .i64 dd] 3 (0, 0)) := heap_alloc_new w7 _; have hc8 : (w7.alloc (.cells #[.int .i64 dd] 3)).cell? ⟨w7.heap.size, 0, none⟩ = some (.int .i64 dd) := (by rw [cell_of_row _ _ _ _ _ _ hb8]; rfl); replace hg := ft hg (alloc1 w7 (.cells #[.int .i64 dd] 3)))
              | (go_at_call 23; refine (CD.out _ _ _ _ hg hc8 (lt_of hb8) R8.out).mono ?_; rintro e w9 ⟨rfl, hg9⟩; replace hg := ft hg hg9; obtain ⟨c0, c4, q1, q2, cf4, cf0, nO⟩ := C4.out _ hg; clear hg9 hc8 hb8 R8 R7))
            clear A B UN BL hw1 hw2 hmf hlen CD hd1 hd2 hddb h0 hi ht
            go_region_with (first
              | (go_at_call 27; refine (MP.out _ (ft hg (drew_below _))).mono ?_; rintro e wa ⟨rfl, ga⟩; replace ga := undrew ga; have ha := ft hg ga; obtain ⟨a0, a4, aq1, aq2, af4, af0, _⟩ := C4.out _ ha; clear ga MP c0 c4 q1 q2 cf4 cf0 hg)
              | (go_at_call 27; refine (MT.out _ ha).mono ?_; rintro e wb ⟨rfl, gb⟩; have hb := ft ha gb; obtain ⟨b0, b4, bq1, bq2, bf4, bf0, _⟩ := C4.out _ hb; clear gb MT a0 a4 aq1 aq2 af4 af0 ha)
              | (go_at_call 26; refine (MV.out _).mono ?_; rintro e wc ⟨rfl, gc⟩; have hc := ft hb gc; obtain ⟨d0, d4, dq1, dq2, df4, df0, _⟩ := C4.out _ hc; clear gc MV b0 b4 bq1 bq2 bf4 bf0 hb))
            all_goals
              go_wp2_with fail
              go_ret
              exact ⟨rfl, PU.out _ hc, ((same_of HO.out hc).trans (Same.setCell (p := ⟨b i, 4, none⟩) nO _)).trans (Same.setCell (p := ⟨b i, 0, none⟩) nO _)⟩
          · replace CL := Lib.hid (CL.out 5 (by rw [er0, hdp]; rfl) (by decide))
            generalize errMoveH S i t = EM at *
            generalize moveH S i t = S1 at *
            unfold Belows at BL
            rw [hdp] at CD
            clear er0 hdp H hO hG e1 e2 f1 f2 hx hz hun hbu hmem hdd K0
            generalize dep t = dt at *
            generalize dep i = di at *
            generalize ptrsG b (belowL S i 32) = xs at *
            generalize (belowL S i 32).length = ln at *
            go_enter Try.func7, Try.ntmps7
            go_wp2_with (first
              | (go_at_call 20; refine A.out.mono ?_; rintro e w1 ⟨rfl, hg⟩)
              | (go_at_call 16; refine (B.out _ hg).mono ?_; rintro e w2 ⟨rfl, hg2⟩; replace hg := ft hg hg2; clear hg2)
              | (go_at_call 21; refine (UN.out _ hg).mono ?_; rintro e w3 ⟨rfl, hg3⟩; replace hg := ft hg hg3; clear hg3)
              | (go_at_call 22; refine (BL.out _ hg).mono ?_; rintro e w4 ⟨v, rfl, hr4, hg4⟩; replace hg := ft hg hg4; clear hg4; obtain ⟨ao, cap, rfl⟩ := Mem.owns_shape hr4.1; have R4 := Lib.hid hr4; clear hr4)
              | (go_at_call 23; refine (CB.out _ _ _ hg R4.out).mono ?_; rintro e w5 ⟨rfl, hg5⟩; replace hg := ft hg hg5; have R5 := Lib.hid (R4.out.fresh hg5); clear hg5 CB R4)
              | (go_at_call 18; refine (D1.out _ hg).mono ?_; rintro e w6 ⟨rfl, hg6⟩; replace hg := ft hg hg6; have R6 := Lib.hid (R5.out.fresh hg6); clear hg6 D1 R5)
              | (go_at_call 18; refine (D2.out _ hg).mono ?_; rintro e w7 ⟨rfl, hg7⟩; replace hg := ft hg hg7; have R7 := Lib.hid (R6.out.fresh hg7); clear hg7 D2 R6; have R8 := Lib.hid (R7.out.fresh (alloc1 w7 (.cells #[.int .i64 dd] 3))); have hb8 : (w7.alloc (.cells #[.int .i64 dd] 3)).heap[w7.heap.size]? = some (.cells #[.int .i64 dd] 3 (0, 0)) := heap_alloc_new w7 _; have hc8 : (w7.alloc (.cells #[.int .i64 dd] 3)).cell? ⟨w7.heap.size, 0, none⟩ = some (.int .i64 dd) := (by rw [cell_of_row _ _ _ _ _ _ hb8]; rfl); replace hg := ft hg (alloc1 w7 (.cells #[.int .i64 dd] 3)))
              | (go_at_call 23; refine (CD.out _ _ _ _ hg hc8 (lt_of hb8) R8.out).mono ?_; rintro e w9 ⟨rfl, hg9⟩; replace hg := ft hg hg9; clear hg9 hc8 hb8 R8 R7))
            go_ret
            exact CL.out _ hg
        · replace CL := Lib.hid (CL.out 6 (by rw [er0, hbu]; rfl) (by decide))
          generalize errMoveH S i t = EM at *
          generalize moveH S i t = S1 at *
          unfold Belows at BL
          rw [hbu] at CB
          clear er0 hbu H hO hG e1 e2 f1 f2 hx hz hun hmem K0
          generalize ptrsG b (belowL S i 32) = xs at *
          generalize (belowL S i 32).length = ln at *
          go_enter Try.func7, Try.ntmps7
          go_wp2_with (first
            | (go_at_call 20; refine A.out.mono ?_; rintro e w1 ⟨rfl, hg⟩)
            | (go_at_call 16; refine (B.out _ hg).mono ?_; rintro e w2 ⟨rfl, hg2⟩; replace hg := ft hg hg2; clear hg2)
            | (go_at_call 21; refine (UN.out _ hg).mono ?_; rintro e w3 ⟨rfl, hg3⟩; replace hg := ft hg hg3; clear hg3)
            | (go_at_call 22; refine (BL.out _ hg).mono ?_; rintro e w4 ⟨v, rfl, hr4, hg4⟩; replace hg := ft hg hg4; clear hg4; obtain ⟨ao, cap, rfl⟩ := Mem.owns_shape hr4.1; have R4 := Lib.hid hr4; clear hr4)
            | (go_at_call 23; refine (CB.out _ _ _ hg R4.out).mono ?_; rintro e w5 ⟨rfl, hg5⟩; replace hg := ft hg hg5; have R5 := Lib.hid (R4.out.fresh hg5); clear hg5 CB R4))
          go_ret
          exact CL.out _ hg
      · replace CL := Lib.hid (CL.out 10 (by rw [er0, hun]; rfl) (by decide))
        generalize errMoveH S i t = EM at *
        generalize moveH S i t = S1 at *
        rw [hun] at UN
        clear er0 hun H hO hG e1 e2 f1 f2 hx hz K0
        go_enter Try.func7, Try.ntmps7
        go_wp2_with (first
          | (go_at_call 20; refine A.out.mono ?_; rintro e w1 ⟨rfl, hg⟩)
          | (go_at_call 16; refine (B.out _ hg).mono ?_; rintro e w2 ⟨rfl, hg2⟩; replace hg := ft hg hg2; clear hg2)
          | (go_at_call 21; refine (UN.out _ hg).mono ?_; rintro e w3 ⟨rfl, hg3⟩; replace hg := ft hg hg3; clear hg3))
        go_ret
        exact CL.out _ hg
    · replace CL := Lib.hid (CL.out 1 (by unfold errMoveH; rw [e1, f1]) (by decide))
      generalize errMoveH S i parent = EM at *
      generalize moveH S i parent = S1 at *
      rw [f2] at B
      clear H hO hG e1 e2 f1 f2 hx K0
      go_enter Try.func7, Try.ntmps7
      go_wp2_with (first
        | (go_at_call 20; refine A.out.mono ?_; rintro e w1 ⟨rfl, hg⟩)
        | (go_at_call 16; refine (B.out _ hg).mono ?_; rintro e w2 ⟨rfl, hg2⟩; replace hg := ft hg hg2; clear hg2))
      go_ret
      exact CL.out _ hg
  · rcases grp_cases S parent with ⟨t, z, rfl, ht, hz, f1, f2⟩ | ⟨f1, f2⟩
    · rw [f2] at B
      replace CL := Lib.hid (CL.out 1 (by unfold errMoveH; rw [e1]) (by decide))
      generalize errMoveH S g t = EM at *
      generalize moveH S g t = S1 at *
      rw [e2] at A
      clear H hO hG e1 e2 f1 f2 K0 hz
      go_enter Try.func7, Try.ntmps7
      go_wp2_with (first
        | (go_at_call 20; refine A.out.mono ?_; rintro e w1 ⟨rfl, hg⟩)
        | (go_at_call 16; refine (B.out _ hg).mono ?_; rintro e w2 ⟨rfl, hg2⟩; replace hg := ft hg hg2; clear hg2))
      go_ret
      exact CL.out _ hg
    · rw [f2] at B
      replace CL := Lib.hid (CL.out 1 (by unfold errMoveH; rw [e1]) (by decide))
      generalize errMoveH S g parent = EM at *
      generalize moveH S g parent = S1 at *
      rw [e2] at A
      clear H hO hG e1 e2 f1 f2 K0
      go_enter Try.func7, Try.ntmps7
      go_wp2_with (first
        | (go_at_call 20; refine A.out.mono ?_; rintro e w1 ⟨rfl, hg⟩)
        | (go_at_call 16; refine (B.out _ hg).mono ?_; rintro e w2 ⟨rfl, hg2⟩; replace hg := ft hg hg2; clear hg2))
      go_ret
      exact CL.out _ hg
end Go.Proofs.Yteoemafdknmklaa.Hr
