/- What take of package rbtree does where the key is found. Conditions: the nodes lie apart; the keys are in order; the tree is low. -/
import Derived.Test.YteoemafdknmklaaTreeTake
import Derived.Test.YteoemafdknmklaaTreeFinds
namespace Go.Proofs.Yteoemafdknmklaa.Tree
open Go.ChangeShapes Go.WideShapes Go.ChangeAt Go.RowKit
set_option linter.unusedVariables false
set_option linter.unusedSimpArgs false
set_option maxRecDepth 100000

theorem endT_node : ∀ {T : Tr}, T ≠ .nil → ∃ b c l, T.endT = .node b c l T.end.1 T.end.2 .nil
  | .nil, h => absurd rfl h
  | .node b c l v i .nil, _ => ⟨b, c, l, rfl⟩
  | .node b c l v i (.node b' c' l' v' i' r'), _ => by
    rw [show (Tr.node b c l v i (.node b' c' l' v' i' r')).endT = (Tr.node b' c' l' v' i' r').endT from rfl, show (Tr.node b c l v i (.node b' c' l' v' i' r')).end = (Tr.node b' c' l' v' i' r').end from rfl]
    exact endT_node (by simp)
theorem take_out (w : World) (k : Ky) (n : Nat) (c : Bool) (r : Tr) (h : In w (.node n c .nil k.1 k.2 r)) (hn : (Tr.node n c .nil k.1 k.2 r).bl.Nodup) :
    Calls Try.prog 84 #[.pointer (some ⟨n, 0, none⟩), .agg #[.int .i64 k.1, .int .i64 k.2]] w (Tk (without (.node n c .nil k.1 k.2 r)) (fun b => b ∈ (Tr.node n c .nil k.1 k.2 r).bl) w) := by
  obtain ⟨k1, k2⟩ := k
  simp only at *
  have hw : Hid (∀ w', Below w.heap.size w w' → In w' (.node n c .nil k1 k2 r)) := fun w' g => h.fresh g
  have WO := Lib.hid (fun w h => withouts w n c k1 k2 r h hn)
  have OL := Lib.hid (fun w' (g : Below w.heap.size w w') => onLeft w' (h.fresh g).1)
  obtain ⟨a0, a1, a2, a3, a4, af⟩ := h.1.cells
  have hb := h.1.lt
  rw [at_nil] at OL
  generalize without (.node n c .nil k1 k2 r) = R at *
  obtain ⟨R1, R2⟩ := R
  unfold Tk at *
  simp only at *
  have hq : Hid (∀ m, Below w.heap.size w ((w.alloc (.cells #[.int .i64 k1, .int .i64 k2] 89)).drewN m)) := fun m => fresh_trans ((Below.refl _ w).alloc (Nat.le_refl _) _) (drawn _ _)
  clear h hn
  go_enter Try.func84, Try.ntmps84
  go_wp2_with fail
  go_quiet (fail)
  go_wp2_with (first
    | (go_at_call 79; refine (OL.out _ (hq.out _)).mono ?_; rintro e w1 ⟨rfl, rfl⟩)
    | (go_at_call 91; refine (WO.out _ (hw.out _ (hq.out _))).mono ?_; rintro e w2 ⟨rfl, hx⟩; have W := Lib.hid hx; clear hx))
  go_ret2
  exact ⟨rfl, W.out.1, (Chg.of (hq.out _)).trans W.out.2 (fun b _ hb => hb)⟩

/-- The last key ahead stands in a node's place. -/
theorem rekeyed {w W : World} {n s : Nat} {c : Bool} {l r : Tr} {v i a b : Int} (h : In w (.node n c l v i r)) (hn : (Tr.node n c l v i r).bl.Nodup) (hs : w.heap.size ≤ s) (g : Below w.heap.size w W) :
    In ((((W.setCell ⟨s, 0, none⟩ (.int .i64 a)).setCell ⟨s, 1, none⟩ (.int .i64 b)).setCell ⟨n, 0, none⟩ (.int .i64 a)).setCell ⟨n, 1, none⟩ (.int .i64 b)) (.node n c l a b r) ∧
    Chg (fun k => k ∈ (Tr.node n c l v i r).bl) w ((((W.setCell ⟨s, 0, none⟩ (.int .i64 a)).setCell ⟨s, 1, none⟩ (.int .i64 b)).setCell ⟨n, 0, none⟩ (.int .i64 a)).setCell ⟨n, 1, none⟩ (.int .i64 b)) := by
  obtain ⟨m1, m2, m3, m4, m5⟩ := nodup_node hn
  have h' := h.fresh g
  have hl := h.1.lt
  have hns : n ≠ s := by omega
  have k1 : ∀ b ∈ l.bl, b ≠ s := fun b hb e => by have := h.2.1.lt b hb; omega
  have k2 : ∀ b ∈ r.bl, b ≠ s := fun b hb e => by have := h.2.2.lt b hb; omega
  refine ⟨⟨?_, ?_, ?_⟩, ?_⟩
  · exact ((((h'.1.other hns _).other hns _).setV a).setI b)
  · exact (((h'.2.1.setCell (fun e => k1 _ e rfl) _).setCell (fun e => k1 _ e rfl) _).setCell m1 _).setCell m1 _
  · exact (((h'.2.2.setCell (fun e => k2 _ e rfl) _).setCell (fun e => k2 _ e rfl) _).setCell m2 _).setCell m2 _
  · exact ((((Chg.of g).setCell (p := ⟨s, 0, none⟩) (fun e => by simp at e; omega) _).setCell (p := ⟨s, 1, none⟩) (fun e => by simp at e; omega) _).setCell (fun _ => by simp [Tr.bl]) _).setCell (fun _ => by simp [Tr.bl]) _

set_option maxHeartbeats 4000000 in
theorem take_in (w : World) (k k' : Ky) (n : Nat) (c : Bool) (l r X : Tr) (less : Bool) (lb eb : Nat) (h : In w (.node n c l k.1 k.2 r)) (hn : (Tr.node n c l k.1 k.2 r).bl.Nodup) (hl : l.at = some ⟨lb, 0, none⟩) (hend : ∃ c l', l.endT = .node eb c l' k'.1 k'.2 .nil) (hX : ∀ b ∈ X.bl, b ∈ l.bl) (hXn : X.bl.Nodup)
    (ih : ∀ w, In w l → Calls Try.prog 84 #[.pointer l.at, .agg #[.int .i64 k'.1, .int .i64 k'.2]] w (Tk (X, less) (fun b => b ∈ l.bl) w)) (hy : less = true → May false r) :
    Calls Try.prog 84 #[.pointer (some ⟨n, 0, none⟩), .agg #[.int .i64 k.1, .int .i64 k.2]] w (Tk (if less then fill false (.node n c X k'.1 k'.2 r) else (.node n c X k'.1 k'.2 r, false)) (fun b => b ∈ (Tr.node n c l k.1 k.2 r).bl) w) := by
  obtain ⟨ec, el, hend⟩ := hend
  obtain ⟨k1, k2⟩ := k
  obtain ⟨e1, e2⟩ := k'
  simp only at *
  have D := Lib.hid (fun w => sideOf (e1, e2) (e1, e2) w)
  rw [show side (e1, e2) (e1, e2) = false by simp [side, lt_irrefl]] at D
  have IH := Lib.hid ih
  have hnl := h.1.lt
  have hE : In w (.node eb ec el e1 e2 .nil) := hend ▸ in_endT h.2.1
  have RK : Hid (∀ W s, w.heap.size ≤ s → Below w.heap.size w W → In ((((W.setCell ⟨s, 0, none⟩ (.int .i64 e1)).setCell ⟨s, 1, none⟩ (.int .i64 e2)).setCell ⟨n, 0, none⟩ (.int .i64 e1)).setCell ⟨n, 1, none⟩ (.int .i64 e2)) (.node n c l e1 e2 r) ∧
      Chg (fun k => k ∈ (Tr.node n c l k1 k2 r).bl) w ((((W.setCell ⟨s, 0, none⟩ (.int .i64 e1)).setCell ⟨s, 1, none⟩ (.int .i64 e2)).setCell ⟨n, 0, none⟩ (.int .i64 e1)).setCell ⟨n, 1, none⟩ (.int .i64 e2))) := fun W s hs g => rekeyed h hn hs g
  have RN : Hid (∀ W, In W (.node n c l e1 e2 r) → Nd W n c l.at e1 e2 r.at) := fun W hW => hW.1
  have S2 : Hid (∀ W w1 w2, In W (.node n c l e1 e2 r) → Chg (fun k => k ∈ (Tr.node n c l k1 k2 r).bl) w W → Below W.heap.size W w1 → w.heap.size < W.heap.size → In w2 X → Chg (fun b => b ∈ l.bl) w1 w2 →
      (w2.cell? ⟨w.heap.size, 0, none⟩ = w1.cell? ⟨w.heap.size, 0, none⟩ ∧ w2.cell? ⟨w.heap.size, 1, none⟩ = w1.cell? ⟨w.heap.size, 1, none⟩) ∧ Nd w2 n c l.at e1 e2 r.at ∧ In (w2.setCell ⟨n, 3, none⟩ (.pointer X.at)) (.node n c X e1 e2 r) ∧ (Tr.node n c X e1 e2 r).bl.Nodup ∧
      ∀ w', Chg (fun b => b ∈ (Tr.node n c X e1 e2 r).bl) (w2.setCell ⟨n, 3, none⟩ (.pointer X.at)) w' → Chg (fun b => b ∈ (Tr.node n c l k1 k2 r).bl) w w') := by
    intro W w1 w2 hW gW g1 hlt hw g
    have hbx : w.heap.size ∉ l.bl := fun e => by have := h.2.1.lt _ e; omega
    have hl1 : w.heap.size < w1.heap.size := Nat.lt_of_lt_of_le hlt g1.size
    exact ⟨⟨g.cell hl1 hbx, g.cell hl1 hbx⟩, took (s := false) (hW.fresh g1) hn hX hXn hw g (gW.then g1) (fun b hb => hb)⟩
  have FI := Lib.hid (fun (e : less = true) w h hn => fills w false n c X e1 e2 r h hn (hy e))
  have OL := Lib.hid (fun w' (g : Below w.heap.size w w') => onLeft w' (h.fresh g).1)
  have LA := Lib.hid (fun w' (g : Below w.heap.size w w') => last_right w' l (h.2.1.fresh g))
  have EN := Lib.hid (fun w' (g : Below w.heap.size w w') => (hE.fresh g).1.cells)
  rw [hend] at LA
  rw [hl] at OL LA IH S2 RN
  rw [at_node] at LA
  have M : (Tr.node n c X e1 e2 r).at = some ⟨n, 0, none⟩ := rfl
  obtain ⟨a0, a1, a2, a3, a4, af⟩ := h.1.cells
  have hb := h.1.lt
  have HX := Lib.hid (fun W (hW : In W (.node n c l e1 e2 r)) => hW.2.1)
  obtain ⟨ay, eay⟩ : ∃ a, r.at = a := ⟨_, rfl⟩
  obtain ⟨aX, eaX⟩ : ∃ a, X.at = a := ⟨_, rfl⟩
  rw [hl] at a3
  rw [eay] at a4 S2 RN
  unfold Tk at IH
  simp only [eaX] at IH S2
  have hq : Hid (∀ m, Below w.heap.size w ((w.alloc (.cells #[.int .i64 k1, .int .i64 k2] 89)).drewN m)) := fun m => fresh_trans ((Below.refl _ w).alloc (Nat.le_refl _) _) (drawn _ _)
  clear h hn eay hX hXn hy eaX hE hend hl ih
  generalize (Tr.node n c l k1 k2 r).bl = bl at *
  change Hid (∀ (e : less = true) (w : World), In w (.node n c X e1 e2 r) → (Tr.node n c X e1 e2 r).bl.Nodup → Calls Try.prog 93 #[.pointer (some ⟨n, 0, none⟩), .int .i64 (num false)] w (Tk (fill false (.node n c X e1 e2 r)) (fun k => k ∈ (Tr.node n c X e1 e2 r).bl) w)) at FI
  generalize fill false (.node n c X e1 e2 r) = F at *
  obtain ⟨F1, F2⟩ := F
  generalize Tr.node n c X e1 e2 r = T' at *
  generalize Tr.node n c l e1 e2 r = T0 at *
  unfold Tk at FI ⊢
  have M' := Lib.hid M
  clear M
  cases less
  all_goals
    simp only [num, if_true, if_false, Bool.false_eq_true, forall_const] at D FI ⊢
    go_enter Try.func84, Try.ntmps84
    go_wp2_with fail
    go_quiet (fail)
    have hgq := hq.out nq
    have W0 := new_two (Below.refl _ (w.alloc (.cells #[.int .i64 k1, .int .i64 k2] 89)))
    obtain ⟨u0, u1, uz, uu⟩ := W0
    have hlt : w.heap.size < ((w.alloc (.cells #[.int .i64 k1, .int .i64 k2] 89)).drewN nq).heap.size := lt_of uu
    replace u0 : ((w.alloc (.cells #[.int .i64 k1, .int .i64 k2] 89)).drewN nq).cell? ⟨w.heap.size, 0, none⟩ = some (.int .i64 k1) := u0
    replace u1 : ((w.alloc (.cells #[.int .i64 k1, .int .i64 k2] 89)).drewN nq).cell? ⟨w.heap.size, 1, none⟩ = some (.int .i64 k2) := u1
    replace uz : ∀ j, ((w.alloc (.cells #[.int .i64 k1, .int .i64 k2] 89)).drewN nq).frozen? ⟨w.heap.size, j, none⟩ = false := uz
    clear uu hq
    obtain ⟨n0, n1, n2, n3, n4, nf⟩ := EN.out _ hgq
    have x0 := (hgq.cell (p := ⟨n, 0, none⟩) hb).trans a0
    have x1 := (hgq.cell (p := ⟨n, 1, none⟩) hb).trans a1
    have xf : ∀ j, ((w.alloc (.cells #[.int .i64 k1, .int .i64 k2] 89)).drewN nq).frozen? ⟨n, j, none⟩ = false := fun j => (hgq.frozen (p := ⟨n, j, none⟩) hb).trans (af j)
    obtain ⟨sz, hsz⟩ : ∃ sz, w.heap.size = sz := ⟨_, rfl⟩
    have hns : ¬ n = sz := by omega
    have hsn : ¬ sz = n := by omega
    obtain ⟨r1, r2⟩ := RK.out _ w.heap.size (Nat.le_refl _) hgq
    have R := Lib.hid (And.intro r1 r2)
    clear r1 r2 a0 a1 a2 a3 a4 af n2 n3 n4 nf
    generalize (w.alloc (.cells #[.int .i64 k1, .int .i64 k2] 89)).drewN nq = W at *
    rw [hsz] at u0 u1 uz hlt R
    simp only [hsz]
    go_wp2_with (first
      | (go_at_call 79; refine (OL.out _ hgq).mono ?_; rintro e w1 ⟨rfl, rfl⟩)
      | (go_at_call 87; refine (LA.out _ hgq).mono ?_; rintro e w1 ⟨rfl, rfl⟩))
    have v0 : ((((W.setCell ⟨sz, 0, none⟩ (.int .i64 e1)).setCell ⟨sz, 1, none⟩ (.int .i64 e2)).setCell ⟨n, 0, none⟩ (.int .i64 e1)).setCell ⟨n, 1, none⟩ (.int .i64 e2)).cell? ⟨sz, 0, none⟩ = some (.int .i64 e1) := by go_simp
    have v1 : ((((W.setCell ⟨sz, 0, none⟩ (.int .i64 e1)).setCell ⟨sz, 1, none⟩ (.int .i64 e2)).setCell ⟨n, 0, none⟩ (.int .i64 e1)).setCell ⟨n, 1, none⟩ (.int .i64 e2)).cell? ⟨sz, 1, none⟩ = some (.int .i64 e2) := by go_simp
    have hlt5 : sz < ((((W.setCell ⟨sz, 0, none⟩ (.int .i64 e1)).setCell ⟨sz, 1, none⟩ (.int .i64 e2)).setCell ⟨n, 0, none⟩ (.int .i64 e1)).setCell ⟨n, 1, none⟩ (.int .i64 e2)).heap.size := by simpa [World.setCell] using hlt
    obtain ⟨y0, y1, y2, y3, y4, yf⟩ := (RN.out _ R.out.1).cells
    clear u0 u1 uz hlt n0 n1 x0 x1 xf RK RN OL LA EN
    generalize ((((W.setCell ⟨sz, 0, none⟩ (.int .i64 e1)).setCell ⟨sz, 1, none⟩ (.int .i64 e2)).setCell ⟨n, 0, none⟩ (.int .i64 e1)).setCell ⟨n, 1, none⟩ (.int .i64 e2)) = V at *
    have hbV : n < V.heap.size := by omega
    go_region_held3 (fun w' => w'.cell? ⟨sz, 0, none⟩ = some (.int .i64 e1) ∧ w'.cell? ⟨sz, 1, none⟩ = some (.int .i64 e2) ∧ w'.cell? ⟨n, 0, none⟩ = some (.int .i64 e1) ∧ w'.cell? ⟨n, 1, none⟩ = some (.int .i64 e2)) (first | exact ⟨v0, v1, y0, y1⟩ | exact ⟨d0, d1, z0, z1⟩)
      (first
        | (go_at_call 89; refine (D.out _).mono ?_; rintro e w1 ⟨rfl, hg1⟩; replace hg1 := undrew hg1; have d0 := (hg1.cell (p := ⟨sz, 0, none⟩) hlt5).trans v0; have d1 := (hg1.cell (p := ⟨sz, 1, none⟩) hlt5).trans v1; have z0 := (hg1.cell (p := ⟨n, 0, none⟩) hbV).trans y0; have z1 := (hg1.cell (p := ⟨n, 1, none⟩) hbV).trans y1; have z3 := (hg1.cell (p := ⟨n, 3, none⟩) hbV).trans y3; have z4 := (hg1.cell (p := ⟨n, 4, none⟩) hbV).trans y4))
    clear v0 v1 y0 y1 y3 y4 yf
    go_wp2_with fail
    go_region_held3 (fun w' => w'.cell? ⟨sz, 0, none⟩ = some (.int .i64 e1) ∧ w'.cell? ⟨sz, 1, none⟩ = some (.int .i64 e2) ∧ w'.cell? ⟨n, 3, none⟩ = some (.pointer (some ⟨lb, 0, none⟩))) (first | exact ⟨d0, d1, z3⟩ | exact ⟨f0, f1, i3⟩)
      (first
        | (go_at_call 84; refine (IH.out _ ((HX.out _ R.out.1).fresh hg1).drew).mono ?_; rintro e w2 ⟨rfl, hi2, hc2⟩; obtain ⟨⟨f0, f1⟩, q1, q2⟩ := S2.out _ _ w2 R.out.1 R.out.2 hg1 (by omega) hi2 hc2.on; rw [hsz] at f0 f1; replace f0 := f0.trans d0; replace f1 := f1.trans d1; obtain ⟨i0, i1, i2, i3, i4, iff⟩ := q1.cells; have Q := Lib.hid q2; clear hi2 hc2 q1 q2))
    go_wp2_with (go_at_call 93; refine (FI.out _ Q.out.1 Q.out.2.1).mono ?_; rintro e w3 ⟨rfl, hx⟩; have W := Lib.hid hx; clear hx)
    go_ret2
    first
      | exact ⟨by rw [M'.out]; rfl, Q.out.1, Q.out.2.2 _ (Chg.refl _ _)⟩
      | exact ⟨rfl, W.out.1, Q.out.2.2 _ W.out.2⟩

theorem May.of {s : Bool} {x y : Tr} (hy : y.ok) (ry : y.rr) (hb : x.bh + 1 = y.bh) : May s y := by
  cases y with
  | nil => simp [Tr.bh] at hb
  | node b c l v i r =>
    refine ⟨by simp, fun hc => ?_⟩
    simp only [Tr.red] at hc
    subst hc
    obtain ⟨o1, o2, o3⟩ := hy
    obtain ⟨r1, r2, r3⟩ := ry
    simp only [Tr.bh, if_true, Nat.add_zero] at hb
    cases s
    · refine ⟨fun e => ?_, (r1 rfl).1⟩
      simp only [Tr.kid, Bool.false_eq_true, if_false] at e
      subst e
      simp [Tr.bh] at hb
    · refine ⟨fun e => ?_, (r1 rfl).2⟩
      simp only [Tr.kid, if_true] at e
      subst e
      simp [Tr.bh] at o3
      omega
theorem sub_of {T X : Tr} {d : Nat} (h : (d :: X.bl).Perm T.bl) (hn : T.bl.Nodup) : (∀ b ∈ X.bl, b ∈ T.bl) ∧ X.bl.Nodup :=
  ⟨fun b hb => h.mem_iff.1 (by simp [hb]), (List.nodup_cons.1 (h.nodup_iff.2 hn)).2⟩
theorem takes (T : Tr) : ∀ w k, In w T → T.bl.Nodup → T.ok → T.rr → Sorted T.keys → k ∈ T.keys →
    Calls Try.prog 84 #[.pointer T.at, .agg #[.int .i64 k.1, .int .i64 k.2]] w (Tk (take T k) (fun b => b ∈ T.bl) w) := by
  induction T with
  | nil => intro w k _ _ _ _ _ hk; simp [Tr.keys] at hk
  | node b c l v i r ihl ihr =>
    intro w k h hn ho hr hs hk
    obtain ⟨s1, s2, s3, s4⟩ := sorted_node hs
    obtain ⟨o1, o2, o3⟩ := ho
    obtain ⟨r1, r2, r3⟩ := hr
    obtain ⟨m1, m2, m3, m4, m5⟩ := nodup_node hn
    rw [at_node]
    unfold take
    by_cases e : (v, i) = k
    · subst e
      rw [if_pos rfl]
      cases l with
      | nil => exact take_out w (v, i) b c r h hn
      | node b' c' l' v' i' r' =>
        have ne : Tr.node b' c' l' v' i' r' ≠ .nil := by simp
        obtain ⟨d, hd⟩ := bl_take (.node b' c' l' v' i' r') _ s1 (end_mem ne)
        obtain ⟨x1, x2⟩ := sub_of hd m3
        obtain ⟨k1, k2, k3, k4, k5⟩ := take_bal (.node b' c' l' v' i' r') _ o1 r2 (end_mem ne) s1
        obtain ⟨eb, ec, el, he⟩ := endT_node ne
        exact take_in w (v, i) (Tr.node b' c' l' v' i' r').end b c (.node b' c' l' v' i' r') r (take (.node b' c' l' v' i' r') (Tr.node b' c' l' v' i' r').end).1 (take (.node b' c' l' v' i' r') (Tr.node b' c' l' v' i' r').end).2 b' eb h hn rfl ⟨ec, el, he⟩ x1 x2
          (fun w hw => ihl w _ hw m3 o1 r2 s1 (end_mem ne)) (fun hl => May.of o2 r3 (x := (take (.node b' c' l' v' i' r') (Tr.node b' c' l' v' i' r').end).1) (by rw [hl] at k3; simp only [if_true] at k3; omega))
    · rw [if_neg e]
      by_cases hlt : lt (v, i) k
      · rw [if_pos (by simp [side, hlt])]
        have hkr : k ∈ r.keys := by
          simp only [Tr.keys, List.mem_append, List.mem_cons] at hk
          rcases hk with hk | hk | hk
          · exact absurd (s3 k hk) (lt_asymm hlt)
          · exact absurd hk.symm e
          · exact hk
        obtain ⟨d, hd⟩ := bl_take r k s2 hkr
        obtain ⟨x1, x2⟩ := sub_of hd m4
        obtain ⟨k1, k2, k3, k4, k5⟩ := take_bal r k o2 r3 hkr s2
        exact take_step w k true b c r v i l (take r k).1 (take r k).2 h hn e (by simp [side, hlt]) x1 x2 (fun w hw => ihr w k hw m4 o2 r3 s2 hkr) (fun hl => May.of o1 r2 (x := (take r k).1) (by rw [hl] at k3; simp only [if_true] at k3; omega))
      · rw [if_neg (by simp [side, hlt])]
        have hkl : k ∈ l.keys := by
          simp only [Tr.keys, List.mem_append, List.mem_cons] at hk
          rcases hk with hk | hk | hk
          · exact hk
          · exact absurd hk.symm e
          · exact absurd (s4 k hk) hlt
        obtain ⟨d, hd⟩ := bl_take l k s1 hkl
        obtain ⟨x1, x2⟩ := sub_of hd m3
        obtain ⟨k1, k2, k3, k4, k5⟩ := take_bal l k o1 r2 hkl s1
        exact take_step w k false b c l v i r (take l k).1 (take l k).2 h hn e (by simp [side, hlt]) x1 x2 (fun w hw => ihl w k hw m3 o1 r2 s1 hkl) (fun hl => May.of o2 r3 (x := (take l k).1) (by rw [hl] at k3; simp only [if_true] at k3; omega))
end Go.Proofs.Yteoemafdknmklaa.Tree
