/- What Put of the document's queue does with one that may be put. Conditions: as each fact states them. -/
import Derived.Test.YtdigakgfehaabaaPlaysA
import Derived.Deep.Cut
import Derived.Deep.DeepCutAuto
import Derived.Deep.CutBlock
namespace Go.Proofs.Ytdigakgfehaabaa.Queue
open Go.ChangeShapes Go.WideShapes Go.ChangeAt Go.RowKit Tree
set_option linter.unusedVariables false
set_option linter.unusedSimpArgs false
set_option maxRecDepth 100000

theorem row_set {w : World} {B n g cap b j : Nat} {e : TypeId} {size : Nat} {xs : List Value} (h : w.ownsRow B e size (.slice (some ⟨g, 0, none⟩) n cap) n xs) (hne : g ≠ b) (u : Value) : (w.setCell ⟨b, j, none⟩ u).ownsRow B e size (.slice (some ⟨g, 0, none⟩) n cap) n xs :=
  h.kept (Mem.one_grown w b j u) (.inr (by simpa [Value.ownBlock] using hne))
theorem dlq_set4 {w : World} {g c b : Nat} {l : List Ent} (h : Dlq (some ⟨g, 0, none⟩) c l w) (hne : g ≠ b) (x0 x1 x2 x3 : Value) : Dlq (some ⟨g, 0, none⟩) c l ((((w.setCell ⟨b, 0, none⟩ x0).setCell ⟨b, 1, none⟩ x1).setCell ⟨b, 2, none⟩ x2).setCell ⟨b, 3, none⟩ x3) := by
  refine h.same (O := fun k => k ≠ b) ?_ (fun g' e => by cases e; exact hne)
  exact (((Same.setCell (O := fun k => k ≠ b) (p := ⟨b, 0, none⟩) (by simp) x0).trans (Same.setCell (p := ⟨b, 1, none⟩) (by simp) x1)).trans (Same.setCell (p := ⟨b, 2, none⟩) (by simp) x2)).trans (Same.setCell (p := ⟨b, 3, none⟩) (by simp) x3)
def PutJ (w w2 : World) (N : Nat) (l : List Ent) (xs : List Value) (t : Value) (wc : World) : Prop := ∃ w4 g4 c4, w4.ownsRow N 32 4 (.slice (some ⟨g4, 0, none⟩) (l.length + 1) c4) (l.length + 1) (cellsE l ++ xs) ∧ Below N w2 w4 ∧ wc = w4.setCell ⟨w.heap.size, 0, none⟩ (.slice (some ⟨g4, 0, none⟩) (l.length + 1) c4)
set_option maxHeartbeats 4000000 in
theorem refPut_good (w : World) (d : Dq) (a : Option Addr) (c : Nat) (e : Ent) (hl : d.l.length < 128) (h : Dlq a c d.l w) (hw : 0 ≤ e.wt) (hr : 0 ≤ e.rm) (hk : errPut d.l e = 0) :
    Calls Try.prog 8 #[refQ d a c, e.val] w (DocIs (fun v => .tuple #[v, .int .i64 0]) (putD d e) a w) := by
  obtain ⟨i0, hi, hz0, hz1, hz2⟩ := Mem.info_parts infoE
  have PB := putB w d a c e
  obtain ⟨p1, p2, p3, p4⟩ := errPut_zero hk
  obtain ⟨c1, c2, c3, _⟩ := cerr_zero p2
  rw [show putD d e = up { d with l := d.l ++ [e] } by unfold putD; rw [if_pos hk]]
  have F := Lib.hid (fun W (hB : PutB w d a c e W) => refFinds W d a c e.id (by omega) (h.lst.fresh hB.g))
  rw [placeOf_none.2 p3] at F
  simp only [placeI] at F
  have BX : Hid (∀ W, PutB w d a c e W → _ ∧ _ ∧ _) := fun W hB => ⟨Mem.four hB.q, Mem.four hB.e, Mem.four hB.r⟩
  have HL := Lib.hid (fun W (hB : PutB w d a c e W) => h.fresh hB.g)
  have RA := Lib.hid (fun w' g' c' (hh : Lst (some ⟨g', 0, none⟩) (d.l ++ [e]) w') => refRaised w' { d with l := d.l ++ [e] } (some ⟨g', 0, none⟩) c' (by simp; omega) hh)
  have UL : (up { d with l := d.l ++ [e] }).l = d.l ++ [e] := up_l _
  obtain ⟨d', hd'⟩ : ∃ d', up { d with l := d.l ++ [e] } = d' := ⟨_, rfl⟩
  rw [hd'] at RA UL ⊢
  have hcE : cellsE (d.l ++ [e]) = cellsE d.l ++ [.int .i64 e.id, .int .u64 e.wt, .int .i64 e.v, .int .u64 e.rm] := by rw [cellsE_append]; rfl
  have MY := Lib.hid (fun w => Vrun.may_yes e.wt w c1 c2)
  unfold refQ refQO entO refZ Ent.val at *
  obtain ⟨l, cur, mn, fl⟩ := d
  obtain ⟨ei, ew, ev, er⟩ := e
  simp only at *
  clear hk hd' p2
  have k1 : ¬ ei < 0 := by omega
  have k3 : ¬ ew ≤ er := by omega
  have k6 : ¬ (128 : Int) ≤ l.length := by omega
  have hlen := cellsE_len l
  have hone := cellsE_one l
  go_enter Try.func8, Try.ntmps8
  go_upto_region 1 with fail
  generalize ((w.alloc _).alloc _).alloc _ = W at *
  obtain ⟨⟨b0, b1, b2, b3, bz⟩, ⟨e0, e1, e2, e3, ez⟩, ⟨y0, y1, y2, y3, yz⟩⟩ := BX.out W PB
  clear h
  go_upto_region 11 with (first
    | (go_at_call 27; refine (MY.out _).mono ?_; rintro e w1 ⟨rfl, rfl⟩)
    | (go_at_call 28; refine (F.out _ PB).mono ?_; rintro e w2 ⟨rfl, hg2⟩; have PB2 := PB.fresh hg2; clear b0 b1 b2 b3 bz e0 e1 e2 e3 ez y0 y1 y2 y3 yz; obtain ⟨⟨b0, b1, b2, b3, bz⟩, ⟨e0, e1, e2, e3, ez⟩, ⟨x0, x1, x2, x3, yz⟩⟩ := BX.out _ PB2))
  clear x0 x1 x2 x3
  have hD2 := HL.out _ PB2
  have nil_ := fun e => (show l.length = 0 ∧ c = 0 from ⟨by rw [(hD2.none_ e).1]; rfl, (hD2.none_ e).2⟩)
  obtain ⟨oB, hoB⟩ : ∃ o : Obj, o = .cells #[.int .i64 ei, .int .u64 ew, .int .i64 ev, .int .u64 er] 32 (0, 0) := ⟨_, rfl⟩
  obtain ⟨N, hN⟩ : ∃ n, w2.heap.size = n := ⟨_, rfl⟩
  have zd : w2.heap.size = N := hN
  have hr0 : Below N w2 w2 := Below.refl _ _
  have gA : Below N w2 (w2.alloc (.cells #[] 32)) := hr0.alloc (by omega) _
  have gB : Below N w2 (w2.alloc oB) := hr0.alloc (by omega) _
  have gAB : Below N w2 ((w2.alloc (.cells #[] 32)).alloc oB) := gA.alloc (by rw [World.size_alloc]; omega) _
  have gBA : Below N w2 ((w2.alloc oB).alloc (.cells #[] 32)) := gB.alloc (by rw [World.size_alloc]; omega) _
  have hdA : Below N w2 (w2.alloc (.cells #[] 32)).drew := gA.drew
  have hdAB : Below N w2 ((w2.alloc (.cells #[] 32)).alloc oB).drew := gAB.drew
  have hdBA : Below N w2 ((w2.alloc oB).alloc (.cells #[] 32)).drew := gBA.drew
  have z1 : (w2.alloc (.cells #[] 32)).drew.heap.size = N + 1 := by show (w2.alloc _).heap.size = _; rw [World.size_alloc, zd]
  have z2 : ((w2.alloc (.cells #[] 32)).alloc oB).drew.heap.size = N + 2 := by show ((w2.alloc _).alloc _).heap.size = _; rw [World.size_alloc, World.size_alloc, zd]
  have z3 : ((w2.alloc oB).alloc (.cells #[] 32)).drew.heap.size = N + 2 := by show ((w2.alloc _).alloc _).heap.size = _; rw [World.size_alloc, World.size_alloc, zd]
  have y1 : N ≤ (w2.alloc (.cells #[] 32)).drew.heap.size := by omega
  have y2 : N ≤ ((w2.alloc (.cells #[] 32)).alloc oB).drew.heap.size := by omega
  have y3 : N ≤ ((w2.alloc oB).alloc (.cells #[] 32)).drew.heap.size := by omega
  have m1' : (w2.alloc (.cells #[] 32)).ownsRow N 32 4 (.slice (some ⟨N, 0, none⟩) 0 0) 0 [] := made4 zd (Nat.le_refl _)
  have m1 : (w2.alloc (.cells #[] 32)).drew.ownsRow N 32 4 (.slice (some ⟨N, 0, none⟩) 0 0) 0 [] := m1'
  have m2 : ((w2.alloc (.cells #[] 32)).alloc oB).drew.ownsRow N 32 4 (.slice (some ⟨N, 0, none⟩) 0 0) 0 [] := m1'.alloc oB
  have m3' : ((w2.alloc oB).alloc (.cells #[] 32)).ownsRow N 32 4 (.slice (some ⟨N + 1, 0, none⟩) 0 0) 0 [] := made4 (by rw [World.size_alloc, zd]) (Nat.le_succ _)
  have m3 : ((w2.alloc oB).alloc (.cells #[] 32)).drew.ownsRow N 32 4 (.slice (some ⟨N + 1, 0, none⟩) 0 0) 0 [] := m3'
  have t2 : ((w2.alloc (.cells #[] 32)).alloc oB).drew.heap[N + 1]? = some oB := by show ((w2.alloc _).alloc _).heap[N + 1]? = _; rw [show N + 1 = (w2.alloc (.cells #[] 32)).heap.size by rw [World.size_alloc, zd]]; exact heap_alloc_new _ _
  have t3 : ((w2.alloc oB).alloc (.cells #[] 32)).drew.heap[N]? = some oB := Mem.box_new (w2 := w2.alloc oB) (by rw [← zd]; exact heap_alloc_new _ _)
  have all_ := fun W (hg : Below w2.heap.size w2 W) => (hD2.fresh hg).lst.all (fun ad e => by obtain ⟨g, h1, _⟩ := hD2.base ad e; exact ⟨g, h1⟩)
  rw [hN] at all_
  have s1 := all_ _ hdA
  have s2 := all_ _ hdAB
  have s3 := all_ _ hdBA
  have KE : Hid (∀ W, Below N w2 W → (W.cell? ⟨w.heap.size + 1, 0, none⟩ = some (.int .i64 ei) ∧ W.cell? ⟨w.heap.size + 1, 1, none⟩ = some (.int .u64 ew) ∧ W.cell? ⟨w.heap.size + 1, 2, none⟩ = some (.int .i64 ev) ∧ W.cell? ⟨w.heap.size + 1, 3, none⟩ = some (.int .u64 er) ∧ W.frozen? ⟨w.heap.size, 0, none⟩ = false) ∧ W.cell? ⟨w.heap.size, 0, none⟩ = some (.slice a l.length c)) := fun W hg => by
    obtain ⟨x1, x2, x3⟩ := BX.out W (PB2.fresh (hN.symm ▸ hg))
    exact ⟨⟨x2.1, x2.2.1, x2.2.2.1, x2.2.2.2.1, x1.2.2.2.2 0⟩, x1.1⟩
  have KS : Hid (∀ W u, Below N w2 W → ((W.setCell ⟨w.heap.size, 0, none⟩ u).cell? ⟨w.heap.size + 1, 0, none⟩ = some (.int .i64 ei) ∧ (W.setCell ⟨w.heap.size, 0, none⟩ u).cell? ⟨w.heap.size + 1, 1, none⟩ = some (.int .u64 ew) ∧ (W.setCell ⟨w.heap.size, 0, none⟩ u).cell? ⟨w.heap.size + 1, 2, none⟩ = some (.int .i64 ev) ∧ (W.setCell ⟨w.heap.size, 0, none⟩ u).cell? ⟨w.heap.size + 1, 3, none⟩ = some (.int .u64 er) ∧ (W.setCell ⟨w.heap.size, 0, none⟩ u).frozen? ⟨w.heap.size, 0, none⟩ = false)) := fun W u hg => by
    have hP := PB2.fresh (hN.symm ▸ hg)
    have f1 := Mem.box_kept hP.e (Mem.one_grown W w.heap.size 0 u) (by simp)
    obtain ⟨x0, x1, x2, x3, _⟩ := Mem.four f1
    obtain ⟨_, _, _, _, y⟩ := Mem.four (Mem.set_block hP.q 0 u)
    exact ⟨x0, x1, x2, x3, y 0⟩
  obtain ⟨⟨e10, e11, e12, e13, _⟩, l1⟩ := KE.out _ gA
  have l2 := (KE.out _ gAB).2
  have l3 := (KE.out _ gB).2
  have l4 := (KE.out _ gBA).2
  clear hr0 gA gB gAB gBA m1' m3'
  have KF : Hid (∀ W, Below N w2 W → PutB w ⟨l, cur, mn, fl⟩ a c ⟨ei, ew, ev, er⟩ W) := fun W hg => PB2.fresh (hN.symm ▸ hg)
  have FIN : Hid (∀ w4 g4 c4, w4.ownsRow N 32 4 (.slice (some ⟨g4, 0, none⟩) (l.length + 1) c4) (l.length + 1) (cellsE l ++ [.int .i64 ei, .int .u64 ew, .int .i64 ev, .int .u64 er]) → Below N w2 w4 →
      ((w4.setCell ⟨w.heap.size, 0, none⟩ (.slice (some ⟨g4, 0, none⟩) (l.length + 1) c4)).cell? ⟨w.heap.size, 0, none⟩ = some (.slice (some ⟨g4, 0, none⟩) (l.length + 1) c4) ∧ (w4.setCell ⟨w.heap.size, 0, none⟩ (.slice (some ⟨g4, 0, none⟩) (l.length + 1) c4)).cell? ⟨w.heap.size, 1, none⟩ = some (.int .i64 cur) ∧ (w4.setCell ⟨w.heap.size, 0, none⟩ (.slice (some ⟨g4, 0, none⟩) (l.length + 1) c4)).cell? ⟨w.heap.size, 2, none⟩ = some (.int .i64 mn) ∧ (w4.setCell ⟨w.heap.size, 0, none⟩ (.slice (some ⟨g4, 0, none⟩) (l.length + 1) c4)).cell? ⟨w.heap.size, 3, none⟩ = some (.bool fl)) ∧
      Hid (Calls Try.prog 29 #[.agg #[.slice (some ⟨g4, 0, none⟩) (l.length + 1) c4, .int .i64 cur, .int .i64 mn, .bool fl]] (w4.setCell ⟨w.heap.size, 0, none⟩ (.slice (some ⟨g4, 0, none⟩) (l.length + 1) c4)) (Is (.agg #[.slice (some ⟨g4, 0, none⟩) (l.length + 1) c4, .int .i64 d'.cur, .int .i64 d'.min, .bool d'.flag]) (w4.setCell ⟨w.heap.size, 0, none⟩ (.slice (some ⟨g4, 0, none⟩) (l.length + 1) c4)))) ∧
      Hid (∀ w6, Below (w4.setCell ⟨w.heap.size, 0, none⟩ (.slice (some ⟨g4, 0, none⟩) (l.length + 1) c4)).heap.size (w4.setCell ⟨w.heap.size, 0, none⟩ (.slice (some ⟨g4, 0, none⟩) (l.length + 1) c4)) w6 →
        (w6.cell? ⟨w.heap.size + 2, 0, none⟩ = some (.slice none 0 0) ∧ w6.cell? ⟨w.heap.size + 2, 1, none⟩ = some (.int .i64 0) ∧ w6.cell? ⟨w.heap.size + 2, 2, none⟩ = some (.int .i64 0) ∧ w6.cell? ⟨w.heap.size + 2, 3, none⟩ = some (.bool false) ∧ ∀ j, w6.frozen? ⟨w.heap.size + 2, j, none⟩ = false) ∧
        DocIs (fun v => .tuple #[v, .int .i64 0]) d' a w (.returned (.tuple #[.agg #[.slice (some ⟨g4, 0, none⟩) (l.length + 1) c4, .int .i64 d'.cur, .int .i64 d'.min, .bool d'.flag], .int .i64 0])) ((((w6.setCell ⟨w.heap.size + 2, 0, none⟩ (.slice (some ⟨g4, 0, none⟩) (l.length + 1) c4)).setCell ⟨w.heap.size + 2, 1, none⟩ (.int .i64 d'.cur)).setCell ⟨w.heap.size + 2, 2, none⟩ (.int .i64 d'.min)).setCell ⟨w.heap.size + 2, 3, none⟩ (.bool d'.flag)))) := fun w4 g4 c4 own4 hb4 => by
    have hP := PB2.fresh (hN.symm ▸ hb4)
    have hNw : w.heap.size + 2 < N := by rw [← hN]; exact lt_of PB2.r
    have hg4 := (own4.lt g4 rfl)
    have own5 := row_set own4 (b := w.heap.size) (j := 0) (show g4 ≠ w.heap.size by omega) (.slice (some ⟨g4, 0, none⟩) (l.length + 1) c4)
    obtain ⟨x0, x1, x2, x3, _⟩ := Mem.four (Mem.set_block hP.q 0 (.slice (some ⟨g4, 0, none⟩) (l.length + 1) c4))
    have hr5 := Mem.box_kept hP.r (Mem.one_grown w4 w.heap.size 0 (.slice (some ⟨g4, 0, none⟩) (l.length + 1) c4)) (by simp)
    have hb5 : Below w.heap.size w (w4.setCell ⟨w.heap.size, 0, none⟩ (.slice (some ⟨g4, 0, none⟩) (l.length + 1) c4)) := hP.g.setCell (p := ⟨w.heap.size, 0, none⟩) (Nat.le_refl _) _
    rw [← hcE] at own5
    obtain ⟨hn5, _, hd5⟩ := dlq_own own5
    have hR := RA.out _ g4 c4 hd5.lst
    simp only [UL, List.length_append, List.length_cons, List.length_nil, Nat.zero_add] at hR
    refine ⟨⟨x0, x1, x2, x3⟩, hR, fun w6 hg6 => ⟨?_, ?_⟩⟩
    · exact Mem.four (Mem.box_fresh hr5 hg6)
    · have hg := below_set4 (hb5.trans (hg6.mono hb5.size)) (show w.heap.size ≤ w.heap.size + 2 by omega) (.slice (some ⟨g4, 0, none⟩) (l.length + 1) c4) (.int .i64 d'.cur) (.int .i64 d'.min) (.bool d'.flag)
      have hs5 : (w4.setCell ⟨w.heap.size, 0, none⟩ (.slice (some ⟨g4, 0, none⟩) (l.length + 1) c4)).heap.size = w4.heap.size := by simp [World.setCell]
      have hd6 := hd5.fresh hg6
      have hd7 : Dlq (some ⟨g4, 0, none⟩) c4 (l ++ [⟨ei, ew, ev, er⟩]) ((((w6.setCell ⟨w.heap.size + 2, 0, none⟩ (.slice (some ⟨g4, 0, none⟩) (l.length + 1) c4)).setCell ⟨w.heap.size + 2, 1, none⟩ (.int .i64 d'.cur)).setCell ⟨w.heap.size + 2, 2, none⟩ (.int .i64 d'.min)).setCell ⟨w.heap.size + 2, 3, none⟩ (.bool d'.flag)) := dlq_set4 hd6 (show g4 ≠ w.heap.size + 2 by omega) _ _ _ _
      exact ⟨some ⟨g4, 0, none⟩, c4, by simp [refQ, UL], by rw [UL]; exact hd7, .inr ⟨g4, rfl, by omega⟩, hg⟩
  clear F MY HL b1 b2 b3 bz ez yz hg2 PB all_
  go_cut [38] (fun t38 wc => PutJ w w2 N l [.int .i64 ei, .int .u64 ew, .int .i64 ev, .int .u64 er] t38 wc)
  case first =>
    clear FIN RA BX PB2 hcE UL
    generalize hU : cellsE l = U at *
    subst hoB
    go_region_law (first
        | (refine step_append_any _ (by rfl) _ _ _ (by rfl) N 32 i0 _ 4 32 Try.underlying26 hi hz0 hz1 hz2 rfl (by decide) _ _ _ [] (by rfl) m1 a l.length c U (by rfl) hlen nil_ s1 hone (by simp only [maxLen]; omega) (by omega) y1 _ z1 ?_; intro g3 c3 w3 own3 hgrow3 _; simp only [Nat.zero_add, List.nil_append] at own3; have hb3 := hdA.grown hgrow3 (by omega) (by intro j hj; cases hj; exact Nat.le_refl _); have hz3 := hb3.size; obtain ⟨⟨f0, f1, f2, f3, _⟩, _⟩ := KE.out _ hb3)
        | (refine step_append_any _ (by rfl) _ _ _ (by rfl) N 32 i0 _ 4 32 Try.underlying26 hi hz0 hz1 hz2 rfl (by decide) _ _ _ [] (by rfl) m2 a l.length c U (by rfl) hlen nil_ s2 hone (by simp only [maxLen]; omega) (by omega) y2 _ z2 ?_; intro g3 c3 w3 own3 hgrow3 _; simp only [Nat.zero_add, List.nil_append] at own3; have hb3 := hdAB.grown hgrow3 (by omega) (by intro j hj; cases hj; exact Nat.le_refl _); have hz3 := hb3.size; obtain ⟨⟨f0, f1, f2, f3, _⟩, _⟩ := KE.out _ hb3; have nb := (hgrow3.block (N + 1) (by omega) (by simp)).trans t2)
        | (refine step_append_any _ (by rfl) _ _ _ (by rfl) N 32 i0 _ 4 32 Try.underlying26 hi hz0 hz1 hz2 rfl (by decide) _ _ _ [] (by rfl) m3 a l.length c U (by rfl) hlen nil_ s3 hone (by simp only [maxLen]; omega) (by omega) y3 _ z3 ?_; intro g3 c3 w3 own3 hgrow3 _; simp only [Nat.zero_add, List.nil_append] at own3; have hb3 := hdBA.grown hgrow3 (by omega) (by intro j hj; cases hj; exact Nat.le_succ _); have hz3 := hb3.size; obtain ⟨⟨f0, f1, f2, f3, _⟩, _⟩ := KE.out _ hb3; have nb := (hgrow3.block N (by omega) (by simp)).trans t3)
        | (refine step_append_lies _ (by rfl) _ _ _ (by rfl) N 32 i0 _ 4 32 Try.underlying26 hi hz0 hz1 hz2 rfl (by decide) _ _ _ (by rfl) (own3.alloc _) ⟨w3.heap.size, 0, none⟩ 1 1 [.int .i64 ei, .int .u64 ew, .int .i64 ev, .int .u64 er] (by rfl) (by rfl) (World.news_of_block (heap_alloc_new w3 _)) (by simp [Value.oneCell']) (by decide) (by simp only [maxLen]; omega) (by omega) (by simp; omega) (w3.heap.size + 1) (by simp) ?_; intro g4 c4 w4 own4 hgrow4 _ hlt4; have hb4 := (hb3.alloc (by omega) _).grown hgrow4 (by simp; omega) (fun j hj => (own3.lt j hj).1); obtain ⟨⟨_, _, _, _, fz⟩, c0⟩ := KE.out _ hb4)
        | (refine step_append_lies _ (by rfl) _ _ _ (by rfl) N 32 i0 _ 4 32 Try.underlying26 hi hz0 hz1 hz2 rfl (by decide) _ _ _ (by rfl) own3 _ 1 1 [.int .i64 ei, .int .u64 ew, .int .i64 ev, .int .u64 er] (by rfl) (by rfl) (World.news_of_block nb) (by simp [Value.oneCell']) (by decide) (by simp only [maxLen]; omega) (by omega) (by omega) w3.heap.size (by rfl) ?_; intro g4 c4 w4 own4 hgrow4 _ hlt4; have hb4 := hb3.grown hgrow4 (by omega) (fun j hj => (own3.lt j hj).1); obtain ⟨⟨_, _, _, _, fz⟩, c0⟩ := KE.out _ hb4))
    all_goals
      clear own3 hgrow3 hgrow4 hb3 f0 f1 f2 f3 s1 s2 s3 m1 m2 m3 t2 t3 KE KF e0 e1 e2 e3 e10 e11 e12 e13 l1 l2 l3 l4 b0 hdA hdAB hdBA
      go_wp2_with fail
      go_meet
      case rel => subst hU; exact ⟨_, _, _, own4, hb4, rfl⟩
  case rest =>
    obtain ⟨w4, g4, c4, own4, hb4, rfl⟩ := hcut
    obtain ⟨⟨x0, x1, x2, x3⟩, RC, FE⟩ := FIN.out _ _ _ own4 hb4
    clear own4 s1 s2 s3 m1 m2 m3 t2 t3 KE KF e0 e1 e2 e3 e10 e11 e12 e13 l1 l2 l3 l4 b0 hdA hdAB hdBA FIN
    generalize w4.setCell ⟨w.heap.size, 0, none⟩ (.slice (some ⟨g4, 0, none⟩) (l.length + 1) c4) = W5 at *
    go_wp2_with (go_at_call 29; refine RC.out.mono ?_; rintro e w6 ⟨rfl, hg6⟩; obtain ⟨⟨y0, y1, y2, y3, yz⟩, hD6⟩ := FE.out _ hg6)
    refine bodyPost_ret (v := .tuple #[.agg #[.slice (some ⟨g4, 0, none⟩) (l.length + 1) c4, .int .i64 d'.cur, .int .i64 d'.min, .bool d'.flag], .int .i64 0]) (by simp [results, Try.results8, go_sem, y0, y1, y2, y3]) rfl ?_
    exact hD6
end Go.Proofs.Ytdigakgfehaabaa.Queue

/- One taken out of the document's list: what the appends read and leave. Conditions: as each fact states them. -/
namespace Go.Proofs.Ytdigakgfehaabaa.Queue
open Go.ChangeShapes Go.WideShapes Go.ChangeAt Go.RowKit Tree
set_option linter.unusedVariables false
set_option linter.unusedSimpArgs false
set_option maxRecDepth 100000

theorem row_set' {w : World} {B n g cap b j : Nat} {e : TypeId} {size : Nat} {xs : List Value} (h : w.ownsRow B e size (.slice (some ⟨g, 0, none⟩) n cap) n xs) (hne : g ≠ b) (u : Value) : (w.setCell ⟨b, j, none⟩ u).ownsRow B e size (.slice (some ⟨g, 0, none⟩) n cap) n xs :=
  h.kept (Mem.one_grown w b j u) (.inr (by simpa [Value.ownBlock] using hne))
theorem dlq_set4' {w : World} {g c b : Nat} {l : List Ent} (h : Dlq (some ⟨g, 0, none⟩) c l w) (hne : g ≠ b) (x0 x1 x2 x3 : Value) : Dlq (some ⟨g, 0, none⟩) c l ((((w.setCell ⟨b, 0, none⟩ x0).setCell ⟨b, 1, none⟩ x1).setCell ⟨b, 2, none⟩ x2).setCell ⟨b, 3, none⟩ x3) := by
  refine h.same (O := fun k => k ≠ b) ?_ (fun g' e => by cases e; exact hne)
  exact (((Same.setCell (O := fun k => k ≠ b) (p := ⟨b, 0, none⟩) (by simp) x0).trans (Same.setCell (p := ⟨b, 1, none⟩) (by simp) x1)).trans (Same.setCell (p := ⟨b, 2, none⟩) (by simp) x2)).trans (Same.setCell (p := ⟨b, 3, none⟩) (by simp) x3)
theorem Dlq.set4 {w : World} {a : Option Addr} {c b : Nat} {l : List Ent} (h : Dlq a c l w) (hne : ∀ g, a = some ⟨g, 0, none⟩ → g ≠ b) (x0 x1 x2 x3 : Value) : Dlq a c l ((((w.setCell ⟨b, 0, none⟩ x0).setCell ⟨b, 1, none⟩ x1).setCell ⟨b, 2, none⟩ x2).setCell ⟨b, 3, none⟩ x3) := by
  refine h.same (O := fun k => k ≠ b) ?_ hne
  exact (((Same.setCell (O := fun k => k ≠ b) (p := ⟨b, 0, none⟩) (by simp) x0).trans (Same.setCell (p := ⟨b, 1, none⟩) (by simp) x1)).trans (Same.setCell (p := ⟨b, 2, none⟩) (by simp) x2)).trans (Same.setCell (p := ⟨b, 3, none⟩) (by simp) x3)
def entZ : Obj := .cells #[.int .i64 0, .int .u64 0, .int .i64 0, .int .u64 0] 32 (0, 0)
/-- What stands at the appends of 'append(append([]E{}, l[:i]...), l[i+1:]...)', the list being in the box bx. -/
structure CutF (w2 : World) (N g c n i bx : Nat) (l : List Ent) : Prop where
  hdA : Below N w2 (w2.alloc (.cells #[] 32)).drew
  z1 : (w2.alloc (.cells #[] 32)).drew.heap.size = N + 1
  y1 : N ≤ (w2.alloc (.cells #[] 32)).drew.heap.size
  m1 : (w2.alloc (.cells #[] 32)).drew.ownsRow N 32 4 (.slice (some ⟨N, 0, none⟩) 0 0) 0 []
  s1 : ∀ ad, some (⟨g, 0, none⟩ : Addr) = some ad → ∀ j u, (cellsE (l.take i))[j]? = some u → (w2.alloc (.cells #[] 32)).drew.cell? (ad.add j) = some u
  l0 : w2.cell? ⟨bx, 0, none⟩ = some (.slice (some ⟨g, 0, none⟩) n c)
  l1 : (w2.alloc (.cells #[] 32)).cell? ⟨bx, 0, none⟩ = some (.slice (some ⟨g, 0, none⟩) n c)
  keep : ∀ W, Below N w2 W → W.cell? ⟨bx, 0, none⟩ = some (.slice (some ⟨g, 0, none⟩) n c) ∧ W.frozen? ⟨bx, 0, none⟩ = false ∧ (∀ ad, some (⟨g, (i + 1) * 4, none⟩ : Addr) = some ad → ∀ j u, (cellsE (l.drop (i + 1)))[j]? = some u → W.cell? (ad.add j) = some u) ∧ N ≤ W.heap.size
  k1 : (cellsE (l.take i)).length = i * 4
  k2 : (cellsE (l.drop (i + 1))).length = (n - (i + 1)) * 4
theorem cutF {w2 : World} {N g c n i bx : Nat} {l : List Ent} {x1 x2 x3 : Value} {T : TypeId} (hN : w2.heap.size = N) (hn : l.length = n) (hi : i < n) (hD : Dlq (some ⟨g, 0, none⟩) c l w2) (hb : w2.heap[bx]? = some (.cells #[.slice (some ⟨g, 0, none⟩) n c, x1, x2, x3] T (0, 0))) : CutF w2 N g c n i bx l := by
  have hr0 : Below N w2 w2 := Below.refl _ _
  have gA : Below N w2 (w2.alloc (.cells #[] 32)) := hr0.alloc (by omega) _
  have z1 : (w2.alloc (.cells #[] 32)).drew.heap.size = N + 1 := by show (w2.alloc _).heap.size = _; rw [World.size_alloc, hN]
  have m1 : (w2.alloc (.cells #[] 32)).ownsRow N 32 4 (.slice (some ⟨N, 0, none⟩) 0 0) 0 [] := made4 hN (Nat.le_refl _)
  refine ⟨gA.drew, z1, by omega, m1, (hD.fresh (hN ▸ gA.drew)).lst.take i, (Mem.four hb).1, (Mem.four (Mem.box_new hb)).1, fun W hg => ?_, ?_, ?_⟩
  · have hg' : Below w2.heap.size w2 W := hN.symm ▸ hg
    obtain ⟨x, _, _, _, y⟩ := Mem.four (Mem.box_fresh hb hg')
    exact ⟨x, y 0, (hD.fresh hg').lst.rest (by omega), by have := hg'.size; omega⟩
  · rw [cellsE_len, List.length_take]; congr 1; omega
  · rw [cellsE_len, List.length_drop, hn]
/-- What the appends leave. -/
def CutJ (w2 : World) (N n i bx : Nat) (l : List Ent) (t : Value) (wc : World) : Prop := ∃ w4 g4 c4, w4.ownsRow N 32 4 (.slice (some ⟨g4, 0, none⟩) (n - 1) c4) (n - 1) (cellsE (l.take i ++ l.drop (i + 1))) ∧ Below N w2 w4 ∧ wc = w4.setCell ⟨bx, 0, none⟩ (.slice (some ⟨g4, 0, none⟩) (n - 1) c4)
theorem cutJ {w2 w4 : World} {N n i bx g4 c4 m : Nat} {l : List Ent} {t : Value} (hm : m = n - 1) (h : w4.ownsRow N 32 4 (.slice (some ⟨g4, 0, none⟩) m c4) m (cellsE (l.take i) ++ cellsE (l.drop (i + 1)))) (hb : Below N w2 w4) : CutJ w2 N n i bx l t (w4.setCell ⟨bx, 0, none⟩ (.slice (some ⟨g4, 0, none⟩) m c4)) := by
  subst hm
  exact ⟨w4, g4, c4, by rw [cellsE_append]; exact h, hb, rfl⟩
end Go.Proofs.Ytdigakgfehaabaa.Queue

/- What Drop of the document's queue does. Conditions: as each fact states them. -/
namespace Go.Proofs.Ytdigakgfehaabaa.Queue
open Go.ChangeShapes Go.WideShapes Go.ChangeAt Go.RowKit Tree
set_option linter.unusedVariables false
set_option linter.unusedSimpArgs false
set_option maxRecDepth 100000

/-- Where the boxes of Drop stand. -/
structure DropB (w : World) (d : Dq) (a : Option Addr) (c : Nat) (W : World) : Prop where
  q : W.heap[w.heap.size]? = some (refQO d a c)
  r : W.heap[w.heap.size + 1]? = some refZ
  s : W.heap[w.heap.size + 2]? = some entZ
  g : Below w.heap.size w W
theorem dropB (w : World) (d : Dq) (a : Option Addr) (c : Nat) : DropB w d a c (((w.alloc (refQO d a c)).alloc refZ).alloc entZ) := by
  refine ⟨Mem.box_new (Mem.box_new (heap_alloc_new w _)), Mem.box_new ?_, ?_, (((Below.refl w.heap.size w).alloc (Nat.le_refl _) _).alloc (by simp) _).alloc (by simp; omega) _⟩
  · simpa using heap_alloc_new (w.alloc (refQO d a c)) refZ
  · simpa using heap_alloc_new ((w.alloc (refQO d a c)).alloc refZ) entZ
theorem DropB.fresh {w W W' : World} {d : Dq} {a : Option Addr} {c : Nat} (h : DropB w d a c W) (hg : Below W.heap.size W W') : DropB w d a c W' :=
  ⟨Mem.box_fresh h.q hg, Mem.box_fresh h.r hg, Mem.box_fresh h.s hg, h.g.trans (hg.mono h.g.size)⟩

set_option maxHeartbeats 2000000 in
theorem refDrop_no (w : World) (d : Dq) (a : Option Addr) (c : Nat) (id : Int) (hl : d.l.length ≤ 1000) (h : Dlq a c d.l w) (hn : named d.l id = false) :
    Calls Try.prog 10 #[refQ d a c, .int .i64 id] w (DocIs (fun v => .tuple #[v, Ent.zero.val, .int .i64 12]) (dropD d id) a w) := by
  rw [show dropD d id = d by simp [dropD, hn]]
  have PB := dropB w d a c
  have END : Hid (∀ W, DropB w d a c W → DocIs (fun v => .tuple #[v, Ent.zero.val, .int .i64 12]) d a w (.returned (.tuple #[refQ d a c, Ent.zero.val, .int .i64 12])) ((((((((W.setCell ⟨w.heap.size + 1, 0, none⟩ (.slice a d.l.length c)).setCell ⟨w.heap.size + 1, 1, none⟩ (.int .i64 d.cur)).setCell ⟨w.heap.size + 1, 2, none⟩ (.int .i64 d.min)).setCell ⟨w.heap.size + 1, 3, none⟩ (.bool d.flag)).setCell ⟨w.heap.size + 2, 0, none⟩ (.int .i64 0)).setCell ⟨w.heap.size + 2, 1, none⟩ (.int .u64 0)).setCell ⟨w.heap.size + 2, 2, none⟩ (.int .i64 0)).setCell ⟨w.heap.size + 2, 3, none⟩ (.int .u64 0))) := fun W hB => by
    have hg := below_set4 (below_set4 hB.g (show w.heap.size ≤ w.heap.size + 1 by omega) (.slice a d.l.length c) (.int .i64 d.cur) (.int .i64 d.min) (.bool d.flag)) (show w.heap.size ≤ w.heap.size + 2 by omega) (.int .i64 0) (.int .u64 0) (.int .i64 0) (.int .u64 0)
    exact ⟨a, c, rfl, h.fresh hg, .inl rfl, hg⟩
  have F := Lib.hid (fun W (hB : DropB w d a c W) => refFinds W d a c id hl (h.lst.fresh hB.g))
  rw [placeOf_none.2 hn] at F
  simp only [placeI] at F
  have BX : Hid (∀ W, DropB w d a c W → _ ∧ _ ∧ _) := fun W hB => ⟨Mem.four hB.q, Mem.four hB.r, Mem.four hB.s⟩
  unfold refQ refQO refZ entZ Ent.zero Ent.val at *
  obtain ⟨l, cur, mn, fl⟩ := d
  simp only at *
  clear h hn
  go_enter Try.func10, Try.ntmps10
  go_upto_region 1 with fail
  generalize ((w.alloc _).alloc _).alloc _ = W at *
  obtain ⟨⟨b0, b1, b2, b3, bz⟩, ⟨y0, y1, y2, y3, yz⟩, ⟨z0, z1, z2, z3, zz⟩⟩ := BX.out W PB
  go_wp2_with (go_at_call 28; refine (F.out _ PB).mono ?_; rintro e w2 ⟨rfl, hg2⟩; have PB2 := PB.fresh hg2; clear b0 b1 b2 b3 bz y0 y1 y2 y3 yz z0 z1 z2 z3 zz; obtain ⟨⟨b0, b1, b2, b3, bz⟩, ⟨y0, y1, y2, y3, yz⟩, ⟨z0, z1, z2, z3, zz⟩⟩ := BX.out _ PB2)
  refine bodyPost_ret (v := .tuple #[.agg #[.slice a l.length c, .int .i64 cur, .int .i64 mn, .bool fl], .agg #[.int .i64 0, .int .u64 0, .int .i64 0, .int .u64 0], .int .i64 12]) (by simp [results, Try.results10, go_sem, y0, y1, y2, y3, z0, z1, z2, z3]) rfl ?_
  exact END.out _ PB2

/-- The end of Drop: the least made higher, both answers stored. -/
structure DropE (w V : World) (d d' : Dq) (e : Ent) (N X g4 c4 : Nat) : Prop where
  q : V.heap[w.heap.size]? = some (refQO d (some ⟨g4, 0, none⟩) c4)
  r : V.heap[w.heap.size + 1]? = some refZ
  s : V.heap[w.heap.size + 2]? = some entZ
  e : V.heap[X]? = some (entO e)
  own : V.ownsRow N 32 4 (.slice (some ⟨g4, 0, none⟩) d.l.length c4) d.l.length (cellsE d.l)
  b : Below w.heap.size w V
theorem DropE.call {w V : World} {d d' : Dq} {e : Ent} {N X g4 c4 : Nat} (h : DropE w V d d' e N X g4 c4) (hd : up d = d') (hl : d.l.length ≤ 1000) (hN : w.heap.size + 2 < N) :
    Hid (Calls Try.prog 29 #[refQ d (some ⟨g4, 0, none⟩) c4] V (Is (refQ d' (some ⟨g4, 0, none⟩) c4) V)) ∧
    Hid (∀ w6, Below V.heap.size V w6 →
      ((w6.cell? ⟨w.heap.size + 1, 0, none⟩ = some (.slice none 0 0) ∧ w6.cell? ⟨w.heap.size + 1, 1, none⟩ = some (.int .i64 0) ∧ w6.cell? ⟨w.heap.size + 1, 2, none⟩ = some (.int .i64 0) ∧ w6.cell? ⟨w.heap.size + 1, 3, none⟩ = some (.bool false) ∧ ∀ j, w6.frozen? ⟨w.heap.size + 1, j, none⟩ = false) ∧
       (w6.cell? ⟨w.heap.size + 2, 0, none⟩ = some (.int .i64 0) ∧ w6.cell? ⟨w.heap.size + 2, 1, none⟩ = some (.int .u64 0) ∧ w6.cell? ⟨w.heap.size + 2, 2, none⟩ = some (.int .i64 0) ∧ w6.cell? ⟨w.heap.size + 2, 3, none⟩ = some (.int .u64 0) ∧ ∀ j, w6.frozen? ⟨w.heap.size + 2, j, none⟩ = false) ∧
       (w6.cell? ⟨X, 0, none⟩ = some (.int .i64 e.id) ∧ w6.cell? ⟨X, 1, none⟩ = some (.int .u64 e.wt) ∧ w6.cell? ⟨X, 2, none⟩ = some (.int .i64 e.v) ∧ w6.cell? ⟨X, 3, none⟩ = some (.int .u64 e.rm) ∧ ∀ j, w6.frozen? ⟨X, j, none⟩ = false)) ∧
      (∀ a : Option Addr, DocIs (fun v => .tuple #[v, e.val, .int .i64 0]) d' a w (.returned (.tuple #[refQ d' (some ⟨g4, 0, none⟩) c4, e.val, .int .i64 0]))
        ((((((((w6.setCell ⟨w.heap.size + 1, 0, none⟩ (.slice (some ⟨g4, 0, none⟩) d'.l.length c4)).setCell ⟨w.heap.size + 1, 1, none⟩ (.int .i64 d'.cur)).setCell ⟨w.heap.size + 1, 2, none⟩ (.int .i64 d'.min)).setCell ⟨w.heap.size + 1, 3, none⟩ (.bool d'.flag)).setCell ⟨w.heap.size + 2, 0, none⟩ (.int .i64 e.id)).setCell ⟨w.heap.size + 2, 1, none⟩ (.int .u64 e.wt)).setCell ⟨w.heap.size + 2, 2, none⟩ (.int .i64 e.v)).setCell ⟨w.heap.size + 2, 3, none⟩ (.int .u64 e.rm)))) := by
  obtain ⟨hn5, hg4, hd5⟩ := dlq_own h.own
  subst hd
  have UL := up_l d
  have R := refRaised V d (some ⟨g4, 0, none⟩) c4 hl hd5.lst
  refine ⟨R, fun w6 hg6 => ?_⟩
  have h1 : w6.heap[w.heap.size + 1]? = some (.cells #[.slice none 0 0, .int .i64 0, .int .i64 0, .bool false] 28 (0, 0)) := Mem.box_fresh h.r hg6
  have h2 : w6.heap[w.heap.size + 2]? = some (.cells #[.int .i64 0, .int .u64 0, .int .i64 0, .int .u64 0] 32 (0, 0)) := Mem.box_fresh h.s hg6
  have h3 : w6.heap[X]? = some (.cells #[.int .i64 e.id, .int .u64 e.wt, .int .i64 e.v, .int .u64 e.rm] 32 (0, 0)) := Mem.box_fresh h.e hg6
  refine ⟨⟨Mem.four h1, Mem.four h2, Mem.four h3⟩, fun a => ?_⟩
  have hg := below_set4 (below_set4 (h.b.trans (hg6.mono h.b.size)) (show w.heap.size ≤ w.heap.size + 1 by omega) (.slice (some ⟨g4, 0, none⟩) (up d).l.length c4) (.int .i64 (up d).cur) (.int .i64 (up d).min) (.bool (up d).flag)) (show w.heap.size ≤ w.heap.size + 2 by omega) (.int .i64 e.id) (.int .u64 e.wt) (.int .i64 e.v) (.int .u64 e.rm)
  have hd5' : Dlq (some ⟨g4, 0, none⟩) c4 (up d).l V := by rw [UL]; exact hd5
  have hd7 := dlq_set4' (dlq_set4' (hd5'.fresh hg6) (show g4 ≠ w.heap.size + 1 by omega) (.slice (some ⟨g4, 0, none⟩) (up d).l.length c4) (.int .i64 (up d).cur) (.int .i64 (up d).min) (.bool (up d).flag)) (show g4 ≠ w.heap.size + 2 by omega) (.int .i64 e.id) (.int .u64 e.wt) (.int .i64 e.v) (.int .u64 e.rm)
  exact ⟨some ⟨g4, 0, none⟩, c4, rfl, hd7, .inr ⟨g4, rfl, by omega⟩, hg⟩
set_option maxHeartbeats 8000000 in
theorem refDrop_yes (w : World) (d : Dq) (a : Option Addr) (c : Nat) (id : Int) (i : Nat) (hl : d.l.length ≤ 1000) (h : Dlq a c d.l w) (ho : Once d.l) (hp : placeOf d.l id = some i) :
    Calls Try.prog 10 #[refQ d a c, .int .i64 id] w (DocIs (fun v => .tuple #[v, (ent d.l i).val, .int .i64 0]) (dropD d id) a w) := by
  obtain ⟨i0, hi, hz0, hz1, hz2⟩ := Mem.info_parts infoE
  have PB := dropB w d a c
  obtain ⟨p1, p2, p3, p4⟩ := placeOf_some hp
  have hE := erase_drop ho hp
  rw [show dropD d id = up { d with l := d.l.take i ++ d.l.drop (i + 1), cur := if d.cur = id then -1 else d.cur } by rw [hE]; simp [dropD, p3]]
  have F := Lib.hid (fun W (hB : DropB w d a c W) => refFinds W d a c id (by omega) (h.lst.fresh hB.g))
  rw [hp] at F
  simp only [placeI] at F
  have BX : Hid (∀ W, DropB w d a c W → _ ∧ _ ∧ _) := fun W hB => ⟨Mem.four hB.q, Mem.four hB.r, Mem.four hB.s⟩
  have HL := Lib.hid (fun W (hB : DropB w d a c W) => h.fresh hB.g)
  have hlen : (d.l.take i ++ d.l.drop (i + 1)).length = d.l.length - 1 := by simp; omega
  have RA := Lib.hid (fun w' g' c' (hh : Lst (some ⟨g', 0, none⟩) (d.l.take i ++ d.l.drop (i + 1)) w') => refRaised w' { d with l := d.l.take i ++ d.l.drop (i + 1), cur := if d.cur = id then -1 else d.cur } (some ⟨g', 0, none⟩) c' (by simp only; omega) hh)
  have UL : (up { d with l := d.l.take i ++ d.l.drop (i + 1), cur := if d.cur = id then -1 else d.cur }).l = d.l.take i ++ d.l.drop (i + 1) := up_l _
  obtain ⟨d', hd'⟩ : ∃ d', up { d with l := d.l.take i ++ d.l.drop (i + 1), cur := if d.cur = id then -1 else d.cur } = d' := ⟨_, rfl⟩
  rw [hd'] at RA UL ⊢
  obtain ⟨g, rfl, hgw⟩ : ∃ g, a = some ⟨g, 0, none⟩ ∧ g < w.heap.size := by
    cases ha : a with
    | none => have := (h.none_ ha).1; rw [this] at p1; simp at p1
    | some ad => obtain ⟨g, e1, e2⟩ := h.base ad ha; exact ⟨g, by rw [e1], e2⟩
  have hcap := h.cap
  have xe := (HL.out _ PB).lst i _ (ent_at p1)
  unfold refQ refQO refZ entZ Ent.val at *
  obtain ⟨l, cur, mn, fl⟩ := d
  simp only at *
  generalize hee : ent l i = e at *
  obtain ⟨ei, ew, ev, er⟩ := e
  simp only at *
  have q1 : (i : Int) < l.length := by omega
  have q2 : (l.length : Int) ≤ c := by omega
  have q3 : (0 : Int) ≤ (i : Int) := by omega
  have q4 : (l.length : Int) ≤ 1000 := by omega
  clear hp p4 hE ho h p3 p2
  go_enter Try.func10, Try.ntmps10
  go_upto_region 1 with fail
  generalize ((w.alloc _).alloc _).alloc _ = W at *
  obtain ⟨⟨b0, b1, b2, b3, bz⟩, ⟨y0, y1, y2, y3, yz⟩, ⟨z0, z1, z2, z3, zz⟩⟩ := BX.out W PB
  go_upto_region 4 with (go_at_call 28; refine (F.out _ PB).mono ?_; rintro e w2 ⟨rfl, hg2⟩; have PB2 := PB.fresh hg2; clear b0 b1 b2 b3 bz y0 y1 y2 y3 yz z0 z1 z2 z3 zz; obtain ⟨⟨b0, b1, b2, b3, bz⟩, ⟨y0, y1, y2, y3, yz⟩, ⟨z0, z1, z2, z3, zz⟩⟩ := BX.out _ PB2)
  clear xe
  obtain ⟨g', eg, hgl, x0, x1, x2, x3⟩ := (HL.out _ PB2).lst i _ (ent_at (by omega))
  cases eg
  rw [hee] at x0 x1 x2 x3
  simp only at x0 x1 x2 x3
  go_upto_region 5 with fail
  have hXw : w.heap.size + 2 < w2.heap.size := lt_of PB2.s
  have he2 := heap_alloc_new w2 (.cells #[.int .i64 ei, .int .u64 ew, .int .i64 ev, .int .u64 er] 32)
  have PB3 := PB2.fresh ((Below.refl w2.heap.size w2).alloc (Nat.le_refl _) (.cells #[.int .i64 ei, .int .u64 ew, .int .i64 ev, .int .u64 er] 32))
  clear b0 b1 b2 b3 bz y0 y1 y2 y3 yz z0 z1 z2 z3 zz x0 x1 x2 x3 hgl
  generalize w2.alloc (.cells #[.int .i64 ei, .int .u64 ew, .int .i64 ev, .int .u64 er] 32) = W2 at *
  generalize w2.heap.size = X at *
  obtain ⟨N, hN⟩ : ∃ N, W2.heap.size = N := ⟨_, rfl⟩
  have CF := Lib.hid (cutF (i := i) (x1 := .int .i64 cur) (x2 := .int .i64 mn) (x3 := .bool fl) (T := 28) hN rfl p1 (HL.out W2 PB3) PB3.q)
  go_cut [32] (fun t32 wc => CutJ W2 N l.length i w.heap.size l t32 wc)
  case first =>
    obtain ⟨hdA, z1, y1, m1, s1, l0, l1, keep, k1, k2⟩ := CF.out
    have KP := Lib.hid keep
    clear keep CF RA BX HL F PB PB2 PB3 he2 UL
    have q8 : IntKind.i64.wrap ((i : Int) + 1) = (i : Int) + 1 := by rw [IntKind.wrap_i64]; omega
    have q6 : (i : Int) + 1 ≤ l.length := by omega
    have HK : Hid (c = i + 1 → l.length = i + 1) := fun h => by omega
    have q12 : (0 : Int) ≤ (i : Int) + 1 := by omega
    by_cases hc : c = i + 1
    · have hk := Lib.hid (show l.length = i + 1 by omega)
      have k3 : cellsE (l.drop (i + 1)) = [] := by rw [← hk.out, List.drop_length]; rfl
      subst hc
      replace HK := Lib.hid (HK.out rfl)
      have q7 : (i : Int) ≤ (i : Int) + 1 := by omega
      have q9 : i ≤ i + 1 := by omega
      go_region_law (first
        | (refine step_append_any _ (by rfl) _ _ _ (by rfl) N 32 i0 _ 4 32 Try.underlying26 hi hz0 hz1 hz2 rfl (by decide) _ _ _ [] (by rfl) m1 (some ⟨g, 0, none⟩) i _ (cellsE (l.take i)) (by rfl) k1 (fun e => by cases e) s1 (cellsE_one _) (by simp only [maxLen]; omega) (by omega) y1 _ z1 ?_; intro g3 c3 w3 own3 hgrow3 _; simp only [Nat.zero_add, List.nil_append] at own3; have hb3 := hdA.grown hgrow3 (by omega) (by intro j hj; cases hj; exact Nat.le_refl _); obtain ⟨f0, f1, f2, f3⟩ := KP.out _ hb3)
        | (refine step_append_any _ (by rfl) _ _ _ (by rfl) N 32 i0 _ 4 32 Try.underlying26 hi hz0 hz1 hz2 rfl (by decide) _ _ _ _ (by rfl) own3 (some ⟨g, 0, none⟩) 0 0 [] (by rfl) (by rfl) (fun e => by cases e) (fun ad e j u hu => by simp at hu) (fun y hy => by cases hy) (by simp only [maxLen]; omega) (by omega) f3 _ rfl ?_; intro g4 c4 w4 own4 hgrow4 _; have hb4 := hb3.grown hgrow4 f3 (by intro j hj; cases hj; exact (own3.lt g3 rfl).1); obtain ⟨cc, fz, _⟩ := KP.out _ hb4))
      all_goals
        clear own3 hgrow3 hgrow4 hb3 f0 f1 f2 f3 s1 m1 KP l0 l1 hdA cc fz
        go_wp2_with fail
        go_meet
        case rel => exact cutJ (by have := HK.out; omega) (by rw [k3]; exact own4) hb4
    · have q5 : (i : Int) + 1 < c := by omega
      have q7 : (i : Int) ≤ c := by omega
      have q9 : i ≤ c := by omega
      have q10 : i + 1 ≤ c := by omega
      have q11 : i + 1 ≤ l.length := by omega
      replace HK := Lib.hid q11
      go_region_law (first
        | (refine step_append_any _ (by rfl) _ _ _ (by rfl) N 32 i0 _ 4 32 Try.underlying26 hi hz0 hz1 hz2 rfl (by decide) _ _ _ [] (by rfl) m1 (some ⟨g, 0, none⟩) i _ (cellsE (l.take i)) (by rfl) k1 (fun e => by cases e) s1 (cellsE_one _) (by simp only [maxLen]; omega) (by omega) y1 _ z1 ?_; intro g3 c3 w3 own3 hgrow3 _; simp only [Nat.zero_add, List.nil_append] at own3; have hb3 := hdA.grown hgrow3 (by omega) (by intro j hj; cases hj; exact Nat.le_refl _); obtain ⟨f0, f1, f2, f3⟩ := KP.out _ hb3)
        | (refine step_append_any _ (by rfl) _ _ _ (by rfl) N 32 i0 _ 4 32 Try.underlying26 hi hz0 hz1 hz2 rfl (by decide) _ _ _ _ (by rfl) own3 (some ⟨g, (i + 1) * 4, none⟩) (l.length - (i + 1)) (c - (i + 1)) (cellsE (l.drop (i + 1))) (by rfl) k2 (fun e => by cases e) f2 (cellsE_one _) (by simp only [maxLen]; omega) (by omega) f3 _ rfl ?_; intro g4 c4 w4 own4 hgrow4 _; have hb4 := hb3.grown hgrow4 f3 (by intro j hj; cases hj; exact (own3.lt g3 rfl).1); obtain ⟨cc, fz, _⟩ := KP.out _ hb4))
      all_goals
        clear own3 hgrow3 hgrow4 hb3 f0 f1 f2 f3 s1 m1 KP l0 l1 hdA cc fz
        go_wp2_with fail
        go_meet
        case rel => exact cutJ (by have := HK.out; omega) own4 hb4
  case rest =>
    obtain ⟨w4, g4, c4, own4, hb4, rfl⟩ := hcut
    rw [← hN] at hb4
    have PB4 := PB3.fresh hb4
    have he4 := Mem.box_fresh he2 hb4
    have hXN : X < N := by rw [← hN]; exact lt_of he2
    have hNw : w.heap.size + 2 < N := by rw [← hN]; exact lt_of PB3.s
    have hgN := (own4.lt g4 rfl).1
    have hb5 := Mem.set_block PB4.q 0 (.slice (some ⟨g4, 0, none⟩) (l.length - 1) c4)
    have hr5 := Mem.box_kept PB4.r (Mem.one_grown w4 w.heap.size 0 (.slice (some ⟨g4, 0, none⟩) (l.length - 1) c4)) (by simp)
    have hs5 := Mem.box_kept PB4.s (Mem.one_grown w4 w.heap.size 0 (.slice (some ⟨g4, 0, none⟩) (l.length - 1) c4)) (by simp)
    have he5 := Mem.box_kept he4 (Mem.one_grown w4 w.heap.size 0 (.slice (some ⟨g4, 0, none⟩) (l.length - 1) c4)) (by simp; omega)
    have hg5 := PB4.g.setCell (p := ⟨w.heap.size, 0, none⟩) (Nat.le_refl _) (.slice (some ⟨g4, 0, none⟩) (l.length - 1) c4)
    have own5 := row_set' own4 (b := w.heap.size) (j := 0) (by omega) (.slice (some ⟨g4, 0, none⟩) (l.length - 1) c4)
    simp only [List.setIfInBounds_toArray, List.set_cons_zero] at hb5
    clear CF BX HL F PB PB2 PB3 PB4 he2 he4 own4 hb4 RA
    generalize w4.setCell ⟨w.heap.size, 0, none⟩ (.slice (some ⟨g4, 0, none⟩) (l.length - 1) c4) = W5 at *
    have HD := Lib.hid hd'
    clear hd'
    by_cases hcur : cur = id
    · subst hcur
      rw [if_pos rfl] at HD
      have hb6 := Mem.set_block hb5 1 (.int .i64 (-1))
      have hr6 := Mem.box_kept hr5 (Mem.one_grown W5 w.heap.size 1 (.int .i64 (-1))) (by simp)
      have hs6 := Mem.box_kept hs5 (Mem.one_grown W5 w.heap.size 1 (.int .i64 (-1))) (by simp)
      have he6 := Mem.box_kept he5 (Mem.one_grown W5 w.heap.size 1 (.int .i64 (-1))) (by simp; omega)
      have hg6 := hg5.setCell (p := ⟨w.heap.size, 1, none⟩) (Nat.le_refl _) (.int .i64 (-1))
      have own6 := row_set' own5 (b := w.heap.size) (j := 1) (by omega) (.int .i64 (-1))
      simp only [List.setIfInBounds_toArray, List.set_cons_succ, List.set_cons_zero] at hb6
      obtain ⟨u0, u1, u2, u3, uz⟩ := Mem.four hb5
      go_upto_region 8 with fail
      clear u0 u1 u2 u3 uz hg5
      generalize W5.setCell ⟨w.heap.size, 1, none⟩ (.int .i64 (-1)) = V at *
      have DE : DropE w V ⟨l.take i ++ l.drop (i + 1), -1, mn, fl⟩ d' ⟨ei, ew, ev, er⟩ N X g4 c4 := ⟨by unfold refQO; simp only [hlen]; exact hb6, hr6, hs6, he6, by simp only [hlen]; exact own6, hg6⟩
      obtain ⟨b0, b1, b2, b3, bz⟩ := Mem.four DE.q
      have DF : DropE w V.drew _ d' ⟨ei, ew, ev, er⟩ N X g4 c4 := ⟨DE.q, DE.r, DE.s, DE.e, DE.own, DE.b.drew⟩
      obtain ⟨RC, FE⟩ := DF.call HD.out (by simp only; omega) hNw
      obtain ⟨e0, e1, e2, e3, ez⟩ := Mem.four DE.e
      have FD := Lib.hid (fun w6 (hg : Below V.drew.heap.size V.drew w6) => FE.out w6 hg)
      clear FE DE DF own5 own6 hb5 hb6 hr5 hs5 he5 hr6 hs6 he6
      unfold refQ at RC FD
      simp only [hlen, UL] at RC FD
      go_region_with (go_at_call 29; refine RC.out.mono ?_; rintro e w6 ⟨rfl, hg6⟩; obtain ⟨⟨⟨y0, y1, y2, y3, yz⟩, ⟨z0, z1, z2, z3, zz⟩, ⟨f0, f1, f2, f3, fz⟩⟩, hD6⟩ := FD.out _ hg6)
      all_goals
        go_wp2_with fail
        refine bodyPost_ret (v := .tuple #[.agg #[.slice (some ⟨g4, 0, none⟩) (l.length - 1) c4, .int .i64 d'.cur, .int .i64 d'.min, .bool d'.flag], .agg #[.int .i64 ei, .int .u64 ew, .int .i64 ev, .int .u64 er], .int .i64 0]) (by simp [results, Try.results10, go_sem, y0, y1, y2, y3, z0, z1, z2, z3]) rfl ?_
        exact hD6 _
    · rw [if_neg hcur] at HD
      have hcur' : (cur == id) = false := by simpa using hcur
      obtain ⟨u0, u1, u2, u3, uz⟩ := Mem.four hb5
      go_upto_region 8 with fail
      clear u0 u1 u2 u3 uz
      generalize W5 = V at *
      have DE : DropE w V ⟨l.take i ++ l.drop (i + 1), cur, mn, fl⟩ d' ⟨ei, ew, ev, er⟩ N X g4 c4 := ⟨by unfold refQO; simp only [hlen]; exact hb5, hr5, hs5, he5, by simp only [hlen]; exact own5, hg5⟩
      obtain ⟨b0, b1, b2, b3, bz⟩ := Mem.four DE.q
      have DF : DropE w V.drew _ d' ⟨ei, ew, ev, er⟩ N X g4 c4 := ⟨DE.q, DE.r, DE.s, DE.e, DE.own, DE.b.drew⟩
      obtain ⟨RC, FE⟩ := DF.call HD.out (by simp only; omega) hNw
      obtain ⟨e0, e1, e2, e3, ez⟩ := Mem.four DE.e
      have FD := Lib.hid (fun w6 (hg : Below V.drew.heap.size V.drew w6) => FE.out w6 hg)
      clear FE DE DF own5 hb5 hr5 hs5 he5
      unfold refQ at RC FD
      simp only [hlen, UL] at RC FD
      go_region_with (go_at_call 29; refine RC.out.mono ?_; rintro e w6 ⟨rfl, hg6⟩; obtain ⟨⟨⟨y0, y1, y2, y3, yz⟩, ⟨z0, z1, z2, z3, zz⟩, ⟨f0, f1, f2, f3, fz⟩⟩, hD6⟩ := FD.out _ hg6)
      all_goals
        go_wp2_with fail
        refine bodyPost_ret (v := .tuple #[.agg #[.slice (some ⟨g4, 0, none⟩) (l.length - 1) c4, .int .i64 d'.cur, .int .i64 d'.min, .bool d'.flag], .agg #[.int .i64 ei, .int .u64 ew, .int .i64 ev, .int .u64 er], .int .i64 0]) (by simp [results, Try.results10, go_sem, y0, y1, y2, y3, z0, z1, z2, z3]) rfl ?_
        exact hD6 _
end Go.Proofs.Ytdigakgfehaabaa.Queue
