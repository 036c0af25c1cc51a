/- What enter, leave and settle of package hier do. Conditions: the queues are sound. -/
import Derived.Test.YtnnjbonejbmgdaaGreatPkH
import Derived.Test.YtnnjbonejbmgdaaGreatPkA
import Derived.Deep.LoopGhost
namespace Go.Proofs.YtnnjbonejbmgdaaGreat.Hr
open Go.ChangeShapes Go.WideShapes Go.ChangeAt Go.RowKit Tree Queue
set_option linter.unusedVariables false
set_option linter.unusedSimpArgs false
set_option maxRecDepth 100000

def Bx (w : World) (z : Nat) (e : Ent) : Prop := w.heap[z]? = some (.cells #[.int .i64 e.id, .int .u64 e.wt, .int .i64 e.v, .int .u64 e.rm] 34 (0, 0))
theorem Bx.cells {w : World} {z : Nat} {e : Ent} (h : Bx w z e) : w.cell? ⟨z, 0, none⟩ = some (.int .i64 e.id) ∧ w.cell? ⟨z, 1, none⟩ = some (.int .u64 e.wt) ∧ w.cell? ⟨z, 2, none⟩ = some (.int .i64 e.v) ∧ w.cell? ⟨z, 3, none⟩ = some (.int .u64 e.rm) ∧ (∀ j, w.frozen? ⟨z, j, none⟩ = false) := by
  unfold Bx at h
  refine ⟨?_, ?_, ?_, ?_, fun j => frozen_of_row w z j _ _ h⟩
  all_goals rw [cell_of_row w z _ _ _ _ h]; rfl
theorem Bx.lt {w : World} {z : Nat} {e : Ent} (h : Bx w z e) : z < w.heap.size := lt_of h
theorem Bx.setV {w : World} {z : Nat} {e : Ent} (h : Bx w z e) (v : Int) : Bx (w.setCell ⟨z, 2, none⟩ (.int .i64 v)) z { e with v := v } := by unfold Bx at *; rw [heap_setCell_same w z 2 _ _ _ h]; rfl
theorem Bx.on {w w' : World} {z : Nat} {e : Ent} (h : Bx w z e) (k : w'.heap[z]? = w.heap[z]?) : Bx w' z e := k.trans h
theorem drew_below (w : World) : Below w.heap.size w w.drew := ⟨rfl, rfl, rfl, Nat.le_refl _, fun _ _ => rfl⟩
def With (O : Nat → Prop) (z : Nat) : Nat → Prop := fun k => O k ∨ k = z
theorem same_of {O : Nat → Prop} {w w' : World} (hO : ∀ k, O k → k < w.heap.size) (hg : Below w.heap.size w w') : Same O w w' := Same.of hg hO

set_option maxHeartbeats 4000000 in
theorem enter_ (w : World) (h : Nat) (O : Nat → Prop) (b qb : Nat → Nat) (S : Hs) (H : Hb w h O b qb S) (hO : ∀ k, O k → k < w.heap.size) {dep : Nat → Nat} (hG : GoodD dep S)
    {i p : Nat} {x y : Gp} (hx : S.g i = some x) (hp : x.up = some p) (hy : S.g p = some y) (ho : x.on = false) :
    Calls Tryz.prog 121 #[.pointer (some ⟨b i, 0, none⟩), .int .i64 S.cr] w (DidH (.tuple #[]) (enterS S i p x y) h O b qb w) := by
  obtain ⟨hne, h0⟩ := hG.up_ne hx hp
  obtain ⟨ez, eid, eok⟩ := enter_ok hG hx hp hy ho
  obtain ⟨c0, c1, c2, c3, c4, c5, c6, c7, cf⟩ := H.cells hx
  obtain ⟨d0, d1, _, _, _, _, _, _, df⟩ := H.cells hy
  have hcr := hG.cr
  rw [hp] at c0
  simp only [Option.map_some, toG] at c0
  have hsy := hG.q p y hy
  have MN := Lib.hid (fun w1 (K : Hb w1 h (With O w.heap.size) b qb S) => minss w1 (qb p) _ y.q (que_at K hy))
  have WK := Lib.hid (fun w1 => Renorm.wakes x.own.v y.q.min S.cr w1 hsy.min hcr)
  have PT : Hid (∀ w1, Hb w1 h (With O w.heap.size) b qb S → (∀ k, With O w.heap.size k → k < w1.heap.size) → Calls Tryz.prog 82 #[.pointer (some ⟨qb p, 0, none⟩), (enterE S x y).val] w1
      (DidH (.int .i64 0) (S.set p (some { y with q := putS y.q (enterE S x y) })) h (With O w.heap.size) b qb w1)) := by
    intro w1 K hk
    obtain ⟨Oq, q1, q2, q3, q4⟩ := K.que hk hy
    refine (puts w1 (qb p) Oq y.q (enterE S x y) q1 q2 ?_ ?_ ?_ (sound_few hsy).2.1).mono ?_
    · rw [eid]; have := up_id hG hx h0; unfold I64; omega
    · have := eok.1; omega
    · exact eok.2.2.1
    · rintro e w2 ⟨rfl, g1, g2⟩
      rw [ez]
      exact ⟨rfl, q4 _ _ g1 g2, g2.mono q3⟩
  have EN : Hid (∀ w1, Hb w1 h (With O w.heap.size) b qb (S.set p (some { y with q := putS y.q (enterE S x y) })) → Hb (w1.setCell ⟨b i, 6, none⟩ (.bool true)) h O b qb (enterS S i p x y)) := by
    intro w1 K
    have := K.put (i := i) (x := x) (x' := { x with on := true }) (by rw [Hs.set_other _ _ (Ne.symm hne)]; exact hx) rfl 6 (.bool true) rfl
    exact this.other fun k hk => .inl (.inl hk)
  have KF : Hid (∀ w1 S', Hb w1 h (With O w.heap.size) b qb S' → S'.g i = some x → w1.frozen? ⟨b i, 6, none⟩ = false ∧ w1.cell? ⟨b i, 6, none⟩ = some (.bool x.on) ∧ ¬ With O w.heap.size (b i)) := by
    intro w1 S' K hx'
    obtain ⟨_, _, _, _, _, _, f6, _, f⟩ := K.cells hx'
    refine ⟨f 6, f6, fun e => ?_⟩
    obtain ⟨o, K, h65⟩ := K
    have h1 := h65 _ e
    rw [K.og i x hx'] at h1
    have := K.few i x hx'
    omega
  have hx' : (S.set p (some { y with q := putS y.q (enterE S x y) })).g i = some x := by rw [Hs.set_other _ _ (Ne.symm hne)]; exact hx
  have HX := Lib.hid hx
  have HX' := Lib.hid hx'
  have hv : (enterE S x y) = { x.own with v := Renorm.wake x.own.v y.q.min S.cr } := rfl
  have KN := Lib.hid (H.fresh (alloc1 w (.cells #[.int .i64 x.own.id, .int .u64 x.own.wt, .int .i64 x.own.v, .int .u64 x.own.rm] 34)))
  have K0 : Hid (Hb (w.alloc (.cells #[.int .i64 x.own.id, .int .u64 x.own.wt, .int .i64 x.own.v, .int .u64 x.own.rm] 34)) h (With O w.heap.size) b qb S) :=
    Lib.hid ((H.other (O' := With O w.heap.size) fun k hk => hk.imp id (fun e => by omega)).fresh (alloc1 w _))
  have B0 : Bx (w.alloc (.cells #[.int .i64 x.own.id, .int .u64 x.own.wt, .int .i64 x.own.v, .int .u64 x.own.rm] 34)) w.heap.size x.own := heap_alloc_new w _
  have S0 : Hid (Same O w (w.alloc (.cells #[.int .i64 x.own.id, .int .u64 x.own.wt, .int .i64 x.own.v, .int .u64 x.own.rm] 34))) := Lib.hid (same_of hO (alloc1 w _))
  have HO := Lib.hid hO
  have hO1 : ∀ k, With O w.heap.size k → k < w.heap.size + 1 := by rintro k (hk | rfl); have := hO k hk; omega; omega
  have HO1 := Lib.hid hO1
  clear H KN hx hx' hy hO hO1 ez eid eok hsy hG hp
  generalize enterS S i p x y = S2 at *
  generalize S.set p (some { y with q := putS y.q (enterE S x y) }) = S1 at *
  generalize y.q.min = mn at *
  generalize hcrr : S.cr = cr at *
  generalize Renorm.wake x.own.v mn cr = nv at *
  generalize enterE S x y = en at *
  subst hv
  generalize hown : x.own = ow at *
  obtain ⟨oid, owt, ov, orm⟩ := ow
  simp only [Ent.val] at *
  go_enter Tryz.func121, Tryz.ntmps121
  go_wp2_with fail
  have hzs : (w.alloc (.cells #[.int .i64 oid, .int .u64 owt, .int .i64 ov, .int .u64 orm] 34)).heap.size = w.heap.size + 1 := by simp
  generalize w.alloc (.cells #[.int .i64 oid, .int .u64 owt, .int .i64 ov, .int .u64 orm] 34) = W at *
  obtain ⟨z0, z1, z2, z3, zf⟩ := B0.cells
  have zf2 := zf 2
  generalize hz : w.heap.size = z at *
  go_region_with (first
      | (go_at_call 66; refine (MN.out _ (K0.out.fresh (drew_below _))).mono ?_; rintro e w5 ⟨rfl, g5⟩; replace g5 := undrew g5; have K5 := Lib.hid (K0.out.fresh g5); have B5 := B0.on (g5.block z B0.lt); have S5 := Lib.hid (S0.out.trans (same_of (fun k hk => by have := HO1.out k (.inl hk); omega) g5)); have hw5 := g5.size; obtain ⟨y0, y1, y2, y3, yf⟩ := B5.cells; have yf2 := yf 2; clear g5 K0 S0)
      | (go_at_call 153; refine (WK.out _).mono ?_; rintro e w6 ⟨rfl, g6⟩; have K6 := Lib.hid (K5.out.fresh g6); have B6 := B5.on (g6.block z B5.lt); have S6 := Lib.hid (S5.out.trans (same_of (fun k hk => by have := HO1.out k (.inl hk); omega) g6)); have hw6 := g6.size; obtain ⟨u0, u1, u2, u3, uf⟩ := B6.cells; have uf2 := uf 2; clear g6 K5 S5))
  all_goals
    clear z0 z1 z2 z3 zf y0 y1 y2 y3 yf zf2 yf2 u0 u1 u2 u3 uf uf2 B0 B5
    have B7 := B6.setV nv
    have K7 := Lib.hid (K6.out.away (p := ⟨z, 2, none⟩) (.inr rfl) (.int .i64 nv))
    have S7 := Lib.hid (S6.out.trans (Same.setCell (p := ⟨z, 2, none⟩) (fun e => Nat.lt_irrefl _ (HO.out _ e)) (.int .i64 nv)))
    have hw7 : (w6.setCell ⟨z, 2, none⟩ (.int .i64 nv)).heap.size = w6.heap.size := size_setCell _ _ _
    clear B6 K6 S6
    generalize w6.setCell ⟨z, 2, none⟩ (.int .i64 nv) = W7 at *
    obtain ⟨z0, z1, z2, z3, zf⟩ := B7.cells
    simp only at z0 z1 z2 z3
    go_wp2_with (go_at_call 82; refine (PT.out _ K7.out (fun k hk => by have := HO1.out k hk; omega)).mono ?_; rintro e w8 ⟨rfl, K8, s8⟩; obtain ⟨f8, v8, n8⟩ := KF.out _ _ K8 HX'.out)
    go_end0
    exact ⟨rfl, EN.out _ K8, (S7.out.trans (s8.mono fun k hk => .inl hk)).trans (Same.setCell (p := ⟨b i, 6, none⟩) (fun e => n8 (.inl e)) _)⟩
end Go.Proofs.YtnnjbonejbmgdaaGreat.Hr

/- What leave and settle of package hier do. Conditions: the queues are sound. -/
namespace Go.Proofs.YtnnjbonejbmgdaaGreat.Hr
open Go.ChangeShapes Go.WideShapes Go.ChangeAt Go.RowKit Tree Queue
set_option linter.unusedVariables false
set_option linter.unusedSimpArgs false
set_option maxRecDepth 100000

theorem set_set (S : Hs) (i : Nat) (x y : Option Gp) : (S.set i x).set i y = S.set i y := by
  unfold Hs.set
  simp only [Hs.mk.injEq, true_and]
  funext j
  split <;> rfl
/-- A group's own entity, as it is stored. -/
theorem Hb.putOwn {w : World} {h : Nat} {O : Nat → Prop} {b qb : Nat → Nat} {S : Hs} (H : Hb w h O b qb S) {i : Nat} {x : Gp} (hx : S.g i = some x) (e : Ent) :
    Hb ((((w.setCell ⟨b i, 2, none⟩ (.int .i64 e.id)).setCell ⟨b i, 3, none⟩ (.int .u64 e.wt)).setCell ⟨b i, 4, none⟩ (.int .i64 e.v)).setCell ⟨b i, 5, none⟩ (.int .u64 e.rm)) h O b qb (S.set i (some { x with own := e })) := by
  have h1 := H.put hx (x' := { x with own := { x.own with id := e.id } }) rfl 2 (.int .i64 e.id) rfl
  have h2 := h1.put (Hs.set_same _ _ _) (x' := { x with own := { x.own with id := e.id, wt := e.wt } }) rfl 3 (.int .u64 e.wt) rfl
  rw [set_set] at h2
  have h3 := h2.put (Hs.set_same _ _ _) (x' := { x with own := { x.own with id := e.id, wt := e.wt, v := e.v } }) rfl 4 (.int .i64 e.v) rfl
  rw [set_set] at h3
  have h4 := h3.put (Hs.set_same _ _ _) (x' := { x with own := e }) rfl 5 (.int .u64 e.rm) rfl
  rw [set_set] at h4
  exact h4
theorem Hb.apart {w : World} {h : Nat} {O : Nat → Prop} {b qb : Nat → Nat} {S : Hs} (H : Hb w h O b qb S) {i : Nat} {x : Gp} (hx : S.g i = some x) : ¬ O (b i) := by
  obtain ⟨o, K, h65⟩ := H
  intro e
  have h1 := h65 _ e
  rw [K.og i x hx] at h1
  have := K.few i x hx
  omega
set_option maxHeartbeats 4000000 in
theorem leave_ (w : World) (h : Nat) (O : Nat → Prop) (b qb : Nat → Nat) (S : Hs) (H : Hb w h O b qb S) (hO : ∀ k, O k → k < w.heap.size) {dep : Nat → Nat} (hG : GoodD dep S)
    {i p : Nat} {x y : Gp} (hx : S.g i = some x) (hp : x.up = some p) (hy : S.g p = some y) (ho : x.on = true) :
    Calls Tryz.prog 120 #[.pointer (some ⟨b i, 0, none⟩)] w (DidH (.tuple #[]) (leaveS S i p x y) h O b qb w) := by
  obtain ⟨hne, h0⟩ := hG.up_ne hx hp
  have hn := (hG.leave hx hp hy ho).2
  have hid := up_id hG hx h0
  obtain ⟨c0, c1, c2, c3, c4, c5, c6, c7, cf⟩ := H.cells hx
  obtain ⟨d0, d1, _, _, _, _, _, _, df⟩ := H.cells hy
  rw [hp] at c0
  simp only [Option.map_some, toG] at c0
  have hsy := hG.q p y hy
  have hne2 : ¬ b i = b p := by
    obtain ⟨o, K, _⟩ := H
    intro e
    have h1 := K.og i x hx
    rw [e, K.og p y hy] at h1
    omega
  have hx' : (S.set p (some { y with q := dropS y.q x.own.id })).g i = some x := by rw [Hs.set_other _ _ (Ne.symm hne)]; exact hx
  have hy' : (S.set p (some { y with q := dropS y.q x.own.id })).g p = some { y with q := dropS y.q x.own.id } := Hs.set_same _ _ _
  have fid := (find_of hn).2
  have DR : Hid (∀ w1, Below w.heap.size w w1 → Calls Tryz.prog 71 #[.pointer (some ⟨qb p, 0, none⟩), .int .i64 x.own.id] w1
      (fun e w2 => DidH (.tuple #[(find y.q.es x.own.id).val, .int .i64 0]) (S.set p (some { y with q := dropS y.q x.own.id })) h O b qb w1 e w2 ∧
        w2.cell? ⟨b i, 0, none⟩ = some (.pointer (some ⟨b p, 0, none⟩)) ∧ w2.cell? ⟨b p, 1, none⟩ = some (.pointer (some ⟨qb p, 0, none⟩)) ∧ w2.cell? ⟨b i, 2, none⟩ = some (.int .i64 x.own.id) ∧ (∀ j, w2.frozen? ⟨b i, j, none⟩ = false) ∧
        (∃ u, w2.cell? ⟨b i, 3, none⟩ = some u) ∧ (∃ u, w2.cell? ⟨b i, 4, none⟩ = some u) ∧ (∃ u, w2.cell? ⟨b i, 5, none⟩ = some u) ∧ (∃ u, w2.cell? ⟨b i, 6, none⟩ = some u) ∧ ¬ O (b i) ∧
        (∀ f : Ent, f.id = x.own.id → ((((w2.setCell ⟨b i, 2, none⟩ (.int .i64 f.id)).setCell ⟨b i, 3, none⟩ (.int .u64 f.wt)).setCell ⟨b i, 4, none⟩ (.int .i64 f.v)).setCell ⟨b i, 5, none⟩ (.int .u64 f.rm)).cell? ⟨b i, 0, none⟩ = some (.pointer (some ⟨b p, 0, none⟩)) ∧ ((((w2.setCell ⟨b i, 2, none⟩ (.int .i64 f.id)).setCell ⟨b i, 3, none⟩ (.int .u64 f.wt)).setCell ⟨b i, 4, none⟩ (.int .i64 f.v)).setCell ⟨b i, 5, none⟩ (.int .u64 f.rm)).cell? ⟨b p, 1, none⟩ = some (.pointer (some ⟨qb p, 0, none⟩)) ∧ ((((w2.setCell ⟨b i, 2, none⟩ (.int .i64 f.id)).setCell ⟨b i, 3, none⟩ (.int .u64 f.wt)).setCell ⟨b i, 4, none⟩ (.int .i64 f.v)).setCell ⟨b i, 5, none⟩ (.int .u64 f.rm)).cell? ⟨b i, 2, none⟩ = some (.int .i64 x.own.id) ∧ ((((w2.setCell ⟨b i, 2, none⟩ (.int .i64 f.id)).setCell ⟨b i, 3, none⟩ (.int .u64 f.wt)).setCell ⟨b i, 4, none⟩ (.int .i64 f.v)).setCell ⟨b i, 5, none⟩ (.int .u64 f.rm)).frozen? ⟨b i, 6, none⟩ = false ∧ (∃ u, ((((w2.setCell ⟨b i, 2, none⟩ (.int .i64 f.id)).setCell ⟨b i, 3, none⟩ (.int .u64 f.wt)).setCell ⟨b i, 4, none⟩ (.int .i64 f.v)).setCell ⟨b i, 5, none⟩ (.int .u64 f.rm)).cell? ⟨b i, 6, none⟩ = some u)) ∧
        ∀ f : Ent, Hb (((((w2.setCell ⟨b i, 2, none⟩ (.int .i64 f.id)).setCell ⟨b i, 3, none⟩ (.int .u64 f.wt)).setCell ⟨b i, 4, none⟩ (.int .i64 f.v)).setCell ⟨b i, 5, none⟩ (.int .u64 f.rm)).setCell ⟨b i, 6, none⟩ (.bool false)) h O b qb ((S.set p (some { y with q := dropS y.q x.own.id })).set i (some { x with own := f, on := false })))) := by
    intro w1 hg
    have K := H.fresh hg
    obtain ⟨Oq, q1, q2, q3, q4⟩ := K.que (fun k hk => Nat.lt_of_lt_of_le (hO k hk) hg.size) hy
    refine (dropss w1 (qb p) Oq y.q x.own.id q1 q2 hsy (by unfold I64; omega)).mono ?_
    rintro e w2 ⟨rfl, g1, g2⟩
    have K2 := q4 _ _ g1 g2
    obtain ⟨e0, e1, e2, e3, e4, e5, e6, e7, ef⟩ := K2.cells hx'
    obtain ⟨_, f1, _⟩ := K2.cells hy'
    rw [hp] at e0
    refine ⟨⟨by unfold errDrop; rw [if_pos hn], K2, g2.mono q3⟩, e0, f1, e2, ef, ⟨_, e3⟩, ⟨_, e4⟩, ⟨_, e5⟩, ⟨_, e6⟩, K2.apart hx', fun f hf => ?_, fun f => ?_⟩
    · have K3 := K2.putOwn hx' f
      obtain ⟨e0, e1, e2, e3, e4, e5, e6, e7, ef⟩ := K3.cells (Hs.set_same _ _ _)
      obtain ⟨_, f1, _⟩ := K3.cells ((Hs.set_other _ _ hne).trans hy')
      simp only [hp, Option.map_some, toG] at e0
      simp only at e2
      exact ⟨e0, f1, e2.trans (by rw [hf]), ef 6, _, e6⟩
    have K3 := K2.putOwn hx' f
    have K4 := K3.put (Hs.set_same _ _ _) (x' := { x with own := f, on := false }) rfl 6 (.bool false) rfl
    rw [set_set] at K4
    exact K4
  have HO := Lib.hid hO
  unfold leaveS
  clear H hx hy hx' hy' hO hG hn
  have LV := DR
  generalize S.set p (some { y with q := dropS y.q x.own.id }) = S1 at *
  generalize find y.q.es x.own.id = f at *
  generalize x.own.id = idv at *
  obtain ⟨ia, iw, iv, ir⟩ := f
  simp only at fid
  subst fid
  simp only [Ent.val] at *
  have cf2 := cf 2
  have cf3 := cf 3
  have cf4 := cf 4
  have cf5 := cf 5
  clear LV
  clear c1 c3 c4 c5 c6 c7 cf d0 df hne2 cf2 cf3 cf4 cf5 hid hp ho
  go_enter Tryz.func120, Tryz.ntmps120
  go_wp2_with fail
  go_region_held3 (fun w' => w'.cell? ⟨b i, 0, none⟩ = some (.pointer (some ⟨b p, 0, none⟩)) ∧ w'.cell? ⟨b p, 1, none⟩ = some (.pointer (some ⟨qb p, 0, none⟩)) ∧ w'.cell? ⟨b i, 2, none⟩ = some (.int .i64 ia)) (first | exact ⟨c0, d1, c2⟩ | exact ⟨l0, l1, l2⟩ | exact ⟨m0, m1, m2⟩)
    (first
      | (go_at_call 71; refine (DR.out _ (drew_below _)).mono ?_; rintro e w2 ⟨⟨rfl, K2, s2⟩, l0, l1, l2, lf, ⟨u3, l3⟩, ⟨u4, l4⟩, ⟨u5, l5⟩, ⟨u6, l6⟩, nO, LF, LE⟩; obtain ⟨m0, m1, m2, m6, um, mc6⟩ := LF ⟨ia, iw, iv, ir⟩ rfl; clear LF; have lf2 := lf 2; have lf3 := lf 3; have lf4 := lf 4; have lf5 := lf 5; have LV := Lib.hid (LE ⟨ia, iw, iv, ir⟩); have K2 := Lib.hid K2; have lf6 := lf 6; clear LE))
  go_wp2_with fail
  go_end0
  exact ⟨rfl, LV.out, (((((((same_of HO.out (drew_below _)).trans s2).trans (Same.setCell (p := ⟨b i, 2, none⟩) nO _)).trans (Same.setCell (p := ⟨b i, 3, none⟩) nO _)).trans (Same.setCell (p := ⟨b i, 4, none⟩) nO _)).trans (Same.setCell (p := ⟨b i, 5, none⟩) nO _)).trans (Same.setCell (p := ⟨b i, 6, none⟩) nO _))⟩
end Go.Proofs.YtnnjbonejbmgdaaGreat.Hr

/- What settle of package hier does: up the way, as long as one is to be put or dropped. Conditions: the queues are sound. -/
namespace Go.Proofs.YtnnjbonejbmgdaaGreat.Hr
open Go.ChangeShapes Go.WideShapes Go.ChangeAt Go.RowKit Tree Queue
set_option linter.unusedVariables false
set_option linter.unusedSimpArgs false
set_option maxRecDepth 100000

theorem step_cr (S : Hs) (i : Nat) : (stepS S i).cr = S.cr ∧ (stepS S i).gr = S.gr := by
  unfold stepS
  split
  · exact ⟨rfl, rfl⟩
  · split
    · exact ⟨rfl, rfl⟩
    · split
      · exact ⟨rfl, rfl⟩
      · split <;> exact ⟨rfl, rfl⟩
def LoopI (w : World) (h : Nat) (O : Nat → Prop) (b qb : Nat → Nat) (F : Hs) (dep : Nat → Nat) (cr : Int) (k : Nat) (t : Value) (wr : World) : Prop :=
  ∃ S i x, t = .pointer (some ⟨b i, 0, none⟩) ∧ S.g i = some x ∧ GoodD dep S ∧ Hb wr h O b qb S ∧ Same O w wr ∧ settleS k S i = F ∧ dep i < k ∧ S.cr = cr
set_option maxHeartbeats 4000000 in
theorem settle_ (w : World) (h : Nat) (O : Nat → Prop) (b qb : Nat → Nat) (S : Hs) (H : Hb w h O b qb S) (hO : ∀ k, O k → k < w.heap.size) {dep : Nat → Nat} (hG : GoodD dep S) {i : Nat} {x : Gp} (hx : S.g i = some x) :
    Calls Tryz.prog 73 #[.pointer (some ⟨h, 0, none⟩), .pointer (some ⟨b i, 0, none⟩)] w (DidH (.tuple #[]) (settleS 9 S i) h O b qb w) := by
  have hd := hG.deep i x hx
  have st : Hid (LoopI w h O b qb (settleS 9 S i) dep S.cr 9 (.pointer (some ⟨b i, 0, none⟩)) w) := Lib.hid ⟨S, i, x, rfl, hx, hG, H, Same.refl _ _, rfl, by omega, rfl⟩
  have HO := Lib.hid hO
  generalize settleS 9 S i = F at *
  generalize S.cr = cr at *
  generalize b i = bi at *
  clear H hG hx hd hO S x i
  go_enter Tryz.func73, Tryz.ntmps73
  go_wp2_with fail
  go_loopg [1] 9 (fun k t wr => LoopI w h O b qb F dep cr k t wr)
  case atStart => exact st.out
  case round =>
    clear st
    obtain ⟨S, i, x, rfl, hx, hG, H, hs, hF, hd, hcr⟩ := hrel
    have hO' : ∀ k, O k → k < wr.heap.size := fun k hk => Nat.lt_of_lt_of_le (HO.out k hk) hs.size
    obtain ⟨c0, c1, _, _, _, _, c6, c7, cf⟩ := H.cells hx
    have SH := Lib.hid (fun w1 (hg : Below wr.heap.size wr w1) => should_ w1 h O b qb S (H.fresh hg) i x hx (hG.q i x hx))
    cases hp : x.up with
    | none =>
      rw [hp] at c0
      have hF' : S = F := by rw [← hF]; exact (settleS_done hx (.inl hp)).symm
      have HF := Lib.hid (hF' ▸ H)
      clear H hG hx hF hF' c1 c6 c7 hd SH hp
      go_wp2_with fail
      go_quiet (fail)
      go_wp2_with fail
      go_end0
      exact ⟨rfl, HF.out.fresh (drawn _ _), hs.trans (same_of hO' (drawn _ _))⟩
    | some p =>
      have h0 := (hG.up_ne hx hp).2
      obtain ⟨p', y, e1, hy, hdp⟩ := hG.link i x hx h0
      rw [hp] at e1; cases e1
      rw [hp] at c0
      simp only [Option.map_some, toG] at c0
      obtain ⟨k, rfl⟩ : ∃ k, gk = k + 1 := ⟨gk - 1, by omega⟩
      by_cases he : x.on = should x
      · have hF' : S = F := by rw [← hF]; exact (settleS_done hx (.inr he)).symm
        have HF := Lib.hid (hF' ▸ H)
        rw [← he] at SH
        generalize x.on = on at *
        have hne : (on != on) = false := by simp
        have hbi := lt_of (H.grp hx)
        clear H hG hx hF hF' c1 c7 hd hp he hy hdp h0 cf
        go_wp2_with fail
        go_region_held3 (fun w' => w'.cell? ⟨b i, 0, none⟩ = some (.pointer (some ⟨b p, 0, none⟩)) ∧ w'.cell? ⟨b i, 6, none⟩ = some (.bool on)) (first | exact ⟨c0, c6⟩ | exact ⟨l0, l6⟩)
          (first
            | (go_at_call 119; refine (SH.out _ (drew_below _)).mono ?_; rintro e w1 ⟨rfl, hg1⟩; replace hg1 := undrew hg1; have l0 := (hg1.cell (p := ⟨b i, 0, none⟩) hbi).trans c0; have l6 := (hg1.cell (p := ⟨b i, 6, none⟩) hbi).trans c6))
        go_wp2_with fail
        go_end0
        exact ⟨rfl, HF.out.fresh hg1, hs.trans (same_of hO' hg1)⟩
      · have hne2 : should x = !x.on := by cases h1 : x.on <;> cases h2 : should x <;> simp_all
        have hstep := stepS_eq hx hp hy
        have hmore := settleS_more (n := k) hx hp he
        rw [hF] at hmore
        have hG' := hG.step i
        have hcr' := (step_cr S i).1
        have hbi := lt_of (H.grp hx)
        have TO : Hid (∀ w2, Hb w2 h O b qb (stepS S i) → Same O w w2 → w2.cell? ⟨b i, 0, none⟩ = some (.pointer (some ⟨b p, 0, none⟩)) ∧ LoopI w h O b qb F dep cr k (.pointer (some ⟨b p, 0, none⟩)) w2) := by
          intro w2 K2 s2
          have hxy : (∃ x', (stepS S i).g i = some x' ∧ x'.up = some p) ∧ ∃ y', (stepS S i).g p = some y' := by
            obtain ⟨hn, _⟩ := hG.up_ne hx hp
            rw [hstep]
            cases x.on
            · simp only [Bool.false_eq_true, if_false]; unfold enterS
              exact ⟨⟨_, Hs.set_same _ _ _, hp⟩, _, (Hs.set_other _ _ hn).trans (Hs.set_same _ _ _)⟩
            · simp only [if_true]; unfold leaveS
              exact ⟨⟨_, Hs.set_same _ _ _, hp⟩, _, (Hs.set_other _ _ hn).trans (Hs.set_same _ _ _)⟩
          obtain ⟨⟨x', hx', hp'⟩, y', hy'⟩ := hxy
          obtain ⟨e0, _⟩ := K2.cells hx'
          rw [hp'] at e0
          exact ⟨e0, stepS S i, p, y', rfl, hy', hG', K2, s2, hmore.symm, by omega, by rw [hcr', hcr]⟩
        rw [hne2] at SH
        cases hon : x.on
        · have EN := Lib.hid (fun w1 (hg : Below wr.heap.size wr w1) => enter_ w1 h O b qb S (H.fresh hg) (fun k hk => Nat.lt_of_lt_of_le (hO' k hk) hg.size) hG hx hp hy hon)
          rw [hon] at hstep c6 SH
          simp only [Bool.false_eq_true, if_false] at hstep
          rw [← hstep, hcr] at EN
          obtain ⟨t0, _, _, _⟩ := H.top
          rw [hcr] at t0
          have hhl := H.lt
          clear H hG hx hF hd hp he hy hdp h0 cf hstep hmore hG' hcr' hne2 hon c1 c7 hcr
          generalize stepS S i = S1 at *
          go_wp2_with fail
          go_region_held3 (fun w' => w'.cell? ⟨b i, 0, none⟩ = some (.pointer (some ⟨b p, 0, none⟩)) ∧ w'.cell? ⟨b i, 6, none⟩ = some (.bool false)) (first | exact ⟨c0, c6⟩ | exact ⟨l0, l6⟩)
            (first
              | (go_at_call 119; refine (SH.out _ (drew_below _)).mono ?_; rintro e w1 ⟨rfl, hg1⟩; replace hg1 := undrew hg1; have l0 := (hg1.cell (p := ⟨b i, 0, none⟩) hbi).trans c0; have l6 := (hg1.cell (p := ⟨b i, 6, none⟩) hbi).trans c6; have t1 := (hg1.cell (p := ⟨h, 0, none⟩) hhl).trans t0))
          go_wp2_with (go_at_call 121; refine (EN.out _ hg1).mono ?_; rintro e w2 ⟨rfl, K2, s2⟩; have S2 := (hs.trans (same_of hO' hg1)).trans s2; obtain ⟨n0, NI⟩ := TO.out _ K2 S2; have NI := Lib.hid NI)
          go_roundg k
          case measure => omega
          case rel => exact NI.out
        · have LV := Lib.hid (fun w1 (hg : Below wr.heap.size wr w1) => leave_ w1 h O b qb S (H.fresh hg) (fun k hk => Nat.lt_of_lt_of_le (hO' k hk) hg.size) hG hx hp hy hon)
          rw [hon] at hstep c6 SH
          simp only [if_true] at hstep
          rw [← hstep] at LV
          clear H hG hx hF hd hp he hy hdp h0 cf hstep hmore hG' hcr' hne2 hon c1 c7 hcr
          generalize stepS S i = S1 at *
          go_wp2_with fail
          go_region_held3 (fun w' => w'.cell? ⟨b i, 0, none⟩ = some (.pointer (some ⟨b p, 0, none⟩)) ∧ w'.cell? ⟨b i, 6, none⟩ = some (.bool true)) (first | exact ⟨c0, c6⟩ | exact ⟨l0, l6⟩)
            (first
              | (go_at_call 119; refine (SH.out _ (drew_below _)).mono ?_; rintro e w1 ⟨rfl, hg1⟩; replace hg1 := undrew hg1; have l0 := (hg1.cell (p := ⟨b i, 0, none⟩) hbi).trans c0; have l6 := (hg1.cell (p := ⟨b i, 6, none⟩) hbi).trans c6))
          go_wp2_with (go_at_call 120; refine (LV.out _ hg1).mono ?_; rintro e w2 ⟨rfl, K2, s2⟩; have S2 := (hs.trans (same_of hO' hg1)).trans s2; obtain ⟨n0, NI⟩ := TO.out _ K2 S2; have NI := Lib.hid NI)
          go_roundg k
          case measure => omega
          case rel => exact NI.out
end Go.Proofs.YtnnjbonejbmgdaaGreat.Hr

/- What Put of package hier does. Conditions: the queues are sound. -/
namespace Go.Proofs.YtnnjbonejbmgdaaGreat.Hr
open Go.ChangeShapes Go.WideShapes Go.ChangeAt Go.RowKit Tree Queue
set_option linter.unusedVariables false
set_option linter.unusedSimpArgs false
set_option maxRecDepth 100000

/-- The group of a number, if it is there; the same, but of the root none. -/
def grp (S : Hs) (g : Int) : Option Gp := if 0 ≤ g ∧ g < 32 then S.g g.toNat else none
def lnk (S : Hs) (g : Int) : Option Gp := if g = 0 then none else grp S g
theorem grp_cases (S : Hs) (g : Int) : (∃ (i : Nat) (x : Gp), g = i ∧ i < 32 ∧ S.g i = some x ∧ grp S g = some x ∧ ∀ b, ptrAt S b g = some ⟨b i, 0, none⟩) ∨ (grp S g = none ∧ ∀ b, ptrAt S b g = none) := by
  rcases there_cases S g with ⟨i, x, rfl, hi, hx⟩ | ⟨h1, _⟩
  · exact .inl ⟨i, x, rfl, hi, hx, by unfold grp; rw [if_pos (by omega)]; simpa using hx, fun b => by rw [ptrAt_nat hi, ptrG_some hx]; rfl⟩
  · refine .inr ⟨?_, h1⟩
    unfold grp
    split
    · rename_i hh
      have := h1 (fun _ => 0)
      unfold ptrAt ptrG at this
      rw [if_pos hh] at this
      simpa using this
    · rfl
theorem lnk_cases (S : Hs) (g : Int) : (∃ (i : Nat) (x : Gp), g = i ∧ i ≠ 0 ∧ i < 32 ∧ S.g i = some x ∧ lnk S g = some x ∧ ∀ b, ptrL S b g = some ⟨b i, 0, none⟩) ∨ (lnk S g = none ∧ ∀ b, ptrL S b g = none) := by
  unfold lnk ptrL
  by_cases h : g = 0
  · exact .inr ⟨if_pos h, fun _ => if_pos h⟩
  · simp only [if_neg h]
    rcases grp_cases S g with ⟨i, x, rfl, hi, hx, e1, e2⟩ | e
    · exact .inl ⟨i, x, rfl, by omega, hi, hx, e1, e2⟩
    · exact .inr e
theorem set_self {S : Hs} {i : Nat} {x : Gp} (hx : S.g i = some x) : S.set i (some x) = S := by
  unfold Hs.set
  cases S
  simp only [Hs.mk.injEq, true_and]
  funext j
  split
  · rename_i e; subst e; exact hx.symm
  · rfl
def taskE (e : Ent) : Ent := { e with id := 2 * e.id }
def errPutH (S : Hs) (g : Int) (e : Ent) : Int := match grp S g with
  | none => 1
  | some x => if 0 ≤ e.id ∧ e.id < 64 then errPut x.q.es (taskE e) else 1
def putH (S : Hs) (g : Int) (e : Ent) : Hs := match grp S g with
  | none => S
  | some x => if (0 ≤ e.id ∧ e.id < 64) ∧ errPut x.q.es (taskE e) = 0 then settleS 9 (S.set g.toNat (some { x with q := putS x.q (taskE e) })) g.toNat else S
theorem Bx.setId {w : World} {z : Nat} {e : Ent} (h : Bx w z e) (n : Int) : Bx (w.setCell ⟨z, 0, none⟩ (.int .i64 n)) z { e with id := n } := by unfold Bx at *; rw [heap_setCell_same w z 0 _ _ _ h]; rfl

theorem put_nil_ (w : World) (g : Int) (e : Ent) : Calls Tryz.prog 32 #[.pointer none, .int .i64 g, e.val] w (Is (.int .i64 1) w) := by
  have A := Lib.hid (fun w => at_nil g w)
  obtain ⟨ea, eb, ec, ed⟩ := e
  simp only [Ent.val]
  go_enter Tryz.func32, Tryz.ntmps32
  go_wp2_with (go_at_call 69; refine (A.out _).mono ?_; rintro e w1 ⟨rfl, hg1⟩)
  go_ret; exact ⟨rfl, ft (alloc1 _ _) hg1⟩
set_option maxHeartbeats 4000000 in
theorem put_ (w : World) (h : Nat) (O : Nat → Prop) (b qb : Nat → Nat) (S : Hs) (H : Hb w h O b qb S) (hO : ∀ k, O k → k < w.heap.size) {dep : Nat → Nat} (hG : GoodD dep S) (g : Int) (e : Ent) (hv : I64 e.v) (hw : 0 ≤ e.wt) (hr : 0 ≤ e.rm) :
    Calls Tryz.prog 32 #[.pointer (some ⟨h, 0, none⟩), .int .i64 g, e.val] w (DidH (.int .i64 (errPutH S g e)) (putH S g e) h O b qb w) := by
  have K0 : Hid (Hb (w.alloc (.cells #[.int .i64 e.id, .int .u64 e.wt, .int .i64 e.v, .int .u64 e.rm] 34)) h (With O w.heap.size) b qb S) :=
    Lib.hid ((H.other (O' := With O w.heap.size) fun k hk => hk.imp id (fun e => by omega)).fresh (alloc1 w _))
  have B0 : Hid (Bx (w.alloc (.cells #[.int .i64 e.id, .int .u64 e.wt, .int .i64 e.v, .int .u64 e.rm] 34)) w.heap.size e) := Lib.hid (heap_alloc_new w _)
  have S0 : Hid (Same O w (w.alloc (.cells #[.int .i64 e.id, .int .u64 e.wt, .int .i64 e.v, .int .u64 e.rm] 34))) := Lib.hid (same_of hO (alloc1 w _))
  have hO1 : ∀ k, With O w.heap.size k → k < (w.alloc (.cells #[.int .i64 e.id, .int .u64 e.wt, .int .i64 e.v, .int .u64 e.rm] 34)).heap.size := by
    rintro k (hk | rfl)
    · have := hO k hk; simp; omega
    · simp
  have HO1 := Lib.hid hO1
  have HZ : Hid (¬ O w.heap.size) := Lib.hid fun e => Nat.lt_irrefl _ (hO _ e)
  have A := Lib.hid (at_ _ h (With O w.heap.size) b qb S K0.out g)
  have IT := Lib.hid (fun w => isTask_ e.id w)
  have SO : Hid (∀ w1 S', Hb w1 h (With O w.heap.size) b qb S' → Hb w1 h O b qb S') := Lib.hid fun w1 S' K => K.other fun k hk => .inl (.inl hk)
  clear hO1 hO H
  unfold errPutH putH
  rcases grp_cases S g with ⟨i, x, rfl, hi, hx, e1, e2⟩ | ⟨e1, e2⟩
  · rw [e1, e2] at *
    simp only [Int.toNat_natCast]
    by_cases ht : 0 ≤ e.id ∧ e.id < 64
    · rw [if_pos ht]
      simp only [ht, true_and]
      rw [decide_eq_true ht] at IT
      have ID := Lib.hid (fun w => idOfTask_ e.id w ht.1 ht.2)
      have hsx := hG.q i x hx
      have PT : Hid (∀ w1, Hb w1 h (With O w.heap.size) b qb S → (∀ k, With O w.heap.size k → k < w1.heap.size) → Calls Tryz.prog 82 #[.pointer (some ⟨qb i, 0, none⟩), (taskE e).val] w1
          (DidH (.int .i64 (errPut x.q.es (taskE e))) (S.set i (some { x with q := putS x.q (taskE e) })) h (With O w.heap.size) b qb w1)) := by
        refine Lib.hid fun w1 K hk => ?_
        obtain ⟨Oq, q1, q2, q3, q4⟩ := K.que hk hx
        refine (puts w1 (qb i) Oq x.q (taskE e) q1 q2 ?_ hw hr (sound_few hsx).2.1).mono ?_
        · show I64 (2 * e.id); unfold I64; omega
        · rintro e w2 ⟨rfl, g1, g2⟩
          exact ⟨rfl, q4 _ _ g1 g2, g2.mono q3⟩
      have QP : Hid (∀ w1, Hb w1 h (With O w.heap.size) b qb S → w1.cell? ⟨b i, 1, none⟩ = some (.pointer (some ⟨qb i, 0, none⟩))) := Lib.hid fun w1 K => (K.cells hx).2.1
      have QP' : Hid (∀ w1, Hb w1 h (With O w.heap.size) b qb (S.set i (some { x with q := putS x.q (taskE e) })) → w1.cell? ⟨b i, 1, none⟩ = some (.pointer (some ⟨qb i, 0, none⟩))) := Lib.hid fun w1 K => (K.cells (Hs.set_same _ _ _)).2.1
      by_cases hz : errPut x.q.es (taskE e) = 0
      · rw [if_pos hz]
        have hG' := hG.put hx hz (by show 0 ≤ 2 * e.id; omega) (by show 2 * e.id < 128; omega) (by show (2 * e.id) % 2 = 0; omega) hv hr
        have SE := Lib.hid (fun w1 (K : Hb w1 h (With O w.heap.size) b qb (S.set i (some { x with q := putS x.q (taskE e) }))) (hk : ∀ k, With O w.heap.size k → k < w1.heap.size) => settle_ w1 h (With O w.heap.size) b qb _ K hk hG' (Hs.set_same _ _ _))
        rw [hz] at PT ⊢
        clear hG hG' hx hsx hz e1 e2 hv hw hr hi
        generalize S.set i (some { x with q := putS x.q (taskE e) }) = S1 at *
        generalize settleS 9 S1 i = S2 at *
        obtain ⟨ea, eb, ec, ed⟩ := e
        simp only [Ent.val, taskE] at *
        go_enter Tryz.func32, Tryz.ntmps32
        go_wp2_with (first
          | (go_at_call 69; refine A.out.mono ?_; rintro e w1 ⟨rfl, hg1⟩; have K1 := Lib.hid (K0.out.fresh hg1); have B1 := B0.out.on (hg1.block _ B0.out.lt); have S1' := Lib.hid (S0.out.trans (same_of (fun k hk => HO1.out k (.inl hk)) hg1)); have hz1 := hg1.size; obtain ⟨y0, y1, y2, y3, yf⟩ := B1.cells; clear hg1)
          | (go_at_call 70; refine (IT.out _).mono ?_; rintro e w2 ⟨rfl, hg2⟩; have K2 := Lib.hid (K1.out.fresh hg2); have B2 := B1.on (hg2.block _ B1.lt); have S2' := Lib.hid (S1'.out.trans (same_of (fun k hk => Nat.lt_of_lt_of_le (HO1.out k (.inl hk)) hz1) hg2)); have hz2 := hg2.size; obtain ⟨u0, u1, u2, u3, uf⟩ := B2.cells; clear hg2 y0 y1 y2 y3 yf B1)
          | (go_at_call 72; refine (ID.out _).mono ?_; rintro e w3 ⟨rfl, hg3⟩; have K3 := Lib.hid (K2.out.fresh hg3); have B3 := B2.on (hg3.block _ B2.lt); have S3' := Lib.hid (S2'.out.trans (same_of (fun k hk => Nat.lt_of_lt_of_le (HO1.out k (.inl hk)) (Nat.le_trans hz1 hz2)) hg3)); have hz3 := hg3.size; obtain ⟨v0, v1, v2, v3, vf⟩ := B3.cells; have vf0 := vf 0; clear hg3 u0 u1 u2 u3 uf B2))
        have K4 := Lib.hid (K3.out.away (p := ⟨w.heap.size, 0, none⟩) (.inr rfl) (.int .i64 (2 * ea)))
        have B4 := B3.setId (2 * ea)
        have S4 := Lib.hid (S3'.out.trans (Same.setCell (p := ⟨w.heap.size, 0, none⟩) HZ.out (.int .i64 (2 * ea))))
        have hz4 : (w3.setCell ⟨w.heap.size, 0, none⟩ (.int .i64 (2 * ea))).heap.size = w3.heap.size := size_setCell _ _ _
        clear B3 v0 v1 v2 v3 vf vf0 K0 K1 K2 K3 S1' S2' S3'
        generalize w3.setCell ⟨w.heap.size, 0, none⟩ (.int .i64 (2 * ea)) = W4 at *
        obtain ⟨y0, y1, y2, y3, yf⟩ := B4.cells
        simp only at y0 y1 y2 y3
        have q4 := QP.out _ K4.out
        have HO4 : Hid (∀ k, With O w.heap.size k → k < W4.heap.size) := Lib.hid fun k hk => by have := HO1.out k hk; omega
        go_region_held3 (fun w' => w'.cell? ⟨b i, 1, none⟩ = some (.pointer (some ⟨qb i, 0, none⟩)) ∧ w'.cell? ⟨w.heap.size, 0, none⟩ = some (.int .i64 (2 * ea)) ∧ w'.cell? ⟨w.heap.size, 1, none⟩ = some (.int .u64 eb) ∧ w'.cell? ⟨w.heap.size, 2, none⟩ = some (.int .i64 ec) ∧ w'.cell? ⟨w.heap.size, 3, none⟩ = some (.int .u64 ed)) (first | exact ⟨q4, y0, y1, y2, y3⟩ | exact ⟨l1, u0, u1, u2, u3⟩)
          (first
            | (go_at_call 82; refine (PT.out _ (K4.out.fresh (drew_below _)) HO4.out).mono ?_; rintro e w5 ⟨rfl, K5, s5⟩; have l1 := QP'.out _ K5; have B5 := B4.on (s5.block _ (.inr rfl)); obtain ⟨u0, u1, u2, u3, uf⟩ := B5.cells; have K5 := Lib.hid K5; have S5 := Lib.hid ((S4.out.trans (same_of (fun k hk => HO4.out k (.inl hk)) (drew_below _))).trans (s5.mono fun k hk => .inl hk)); have HO5 : Hid (∀ k, With O w.heap.size k → k < w5.heap.size) := Lib.hid fun k hk => Nat.lt_of_lt_of_le (HO4.out k hk) s5.size; clear s5))
        go_wp2_with (go_at_call 73; refine (SE.out _ K5.out HO5.out).mono ?_; rintro e w6 ⟨rfl, K6, s6⟩)
        go_ret; exact ⟨rfl, SO.out _ _ K6, S5.out.trans (s6.mono fun k hk => .inl hk)⟩
      · rw [if_neg hz]
        have hS : S.set i (some { x with q := putS x.q (taskE e) }) = S := by
          rw [show putS x.q (taskE e) = x.q by unfold putS; rw [if_neg hz]]; exact set_self hx
        rw [hS] at PT QP'
        have hz2 : (errPut x.q.es (taskE e) != 0) = true := by simpa using hz
        have hz3 : (errPut x.q.es (taskE e) == 0) = false := by simpa using hz
        clear hG hx hsx e1 e2 hv hw hr hi hS
        generalize errPut x.q.es (taskE e) = er at *
        obtain ⟨ea, eb, ec, ed⟩ := e
        simp only [Ent.val, taskE] at *
        go_enter Tryz.func32, Tryz.ntmps32
        go_wp2_with (first
          | (go_at_call 69; refine A.out.mono ?_; rintro e w1 ⟨rfl, hg1⟩; have K1 := Lib.hid (K0.out.fresh hg1); have B1 := B0.out.on (hg1.block _ B0.out.lt); have S1' := Lib.hid (S0.out.trans (same_of (fun k hk => HO1.out k (.inl hk)) hg1)); have hz1 := hg1.size; obtain ⟨y0, y1, y2, y3, yf⟩ := B1.cells; clear hg1)
          | (go_at_call 70; refine (IT.out _).mono ?_; rintro e w2 ⟨rfl, hg2⟩; have K2 := Lib.hid (K1.out.fresh hg2); have B2 := B1.on (hg2.block _ B1.lt); have S2' := Lib.hid (S1'.out.trans (same_of (fun k hk => Nat.lt_of_lt_of_le (HO1.out k (.inl hk)) hz1) hg2)); have hz2 := hg2.size; obtain ⟨u0, u1, u2, u3, uf⟩ := B2.cells; clear hg2 y0 y1 y2 y3 yf B1)
          | (go_at_call 72; refine (ID.out _).mono ?_; rintro e w3 ⟨rfl, hg3⟩; have K3 := Lib.hid (K2.out.fresh hg3); have B3 := B2.on (hg3.block _ B2.lt); have S3' := Lib.hid (S2'.out.trans (same_of (fun k hk => Nat.lt_of_lt_of_le (HO1.out k (.inl hk)) (Nat.le_trans hz1 hz2)) hg3)); have hz3 := hg3.size; obtain ⟨v0, v1, v2, v3, vf⟩ := B3.cells; have vf0 := vf 0; clear hg3 u0 u1 u2 u3 uf B2))
        have K4 := Lib.hid (K3.out.away (p := ⟨w.heap.size, 0, none⟩) (.inr rfl) (.int .i64 (2 * ea)))
        have B4 := B3.setId (2 * ea)
        have S4 := Lib.hid (S3'.out.trans (Same.setCell (p := ⟨w.heap.size, 0, none⟩) HZ.out (.int .i64 (2 * ea))))
        have hz4 : (w3.setCell ⟨w.heap.size, 0, none⟩ (.int .i64 (2 * ea))).heap.size = w3.heap.size := size_setCell _ _ _
        clear B3 v0 v1 v2 v3 vf vf0 K0 K1 K2 K3 S1' S2' S3'
        generalize w3.setCell ⟨w.heap.size, 0, none⟩ (.int .i64 (2 * ea)) = W4 at *
        obtain ⟨y0, y1, y2, y3, yf⟩ := B4.cells
        simp only at y0 y1 y2 y3
        have q4 := QP.out _ K4.out
        have HO4 : Hid (∀ k, With O w.heap.size k → k < W4.heap.size) := Lib.hid fun k hk => by have := HO1.out k hk; omega
        go_region_held3 (fun w' => w'.cell? ⟨b i, 1, none⟩ = some (.pointer (some ⟨qb i, 0, none⟩)) ∧ w'.cell? ⟨w.heap.size, 0, none⟩ = some (.int .i64 (2 * ea)) ∧ w'.cell? ⟨w.heap.size, 1, none⟩ = some (.int .u64 eb) ∧ w'.cell? ⟨w.heap.size, 2, none⟩ = some (.int .i64 ec) ∧ w'.cell? ⟨w.heap.size, 3, none⟩ = some (.int .u64 ed)) (first | exact ⟨q4, y0, y1, y2, y3⟩ | exact ⟨l1, u0, u1, u2, u3⟩)
          (first
            | (go_at_call 82; refine (PT.out _ (K4.out.fresh (drew_below _)) HO4.out).mono ?_; rintro e w5 ⟨rfl, K5, s5⟩; have l1 := QP'.out _ K5; have B5 := B4.on (s5.block _ (.inr rfl)); obtain ⟨u0, u1, u2, u3, uf⟩ := B5.cells; have K5 := Lib.hid K5; have S5 := Lib.hid ((S4.out.trans (same_of (fun k hk => HO4.out k (.inl hk)) (drew_below _))).trans (s5.mono fun k hk => .inl hk)); have HO5 : Hid (∀ k, With O w.heap.size k → k < w5.heap.size) := Lib.hid fun k hk => Nat.lt_of_lt_of_le (HO4.out k hk) s5.size; clear s5))
        go_wp2_with fail
        go_ret; exact ⟨rfl, SO.out _ _ K5.out, S5.out⟩
    · rw [if_neg ht, if_neg (fun k => ht k.1)]
      rw [decide_eq_false ht] at IT
      clear hG hx e1 e2 hv hw hr hi
      obtain ⟨ea, eb, ec, ed⟩ := e
      simp only [Ent.val] at *
      go_enter Tryz.func32, Tryz.ntmps32
      go_wp2_with (first
          | (go_at_call 69; refine A.out.mono ?_; rintro e w1 ⟨rfl, hg1⟩; have K1 := Lib.hid (K0.out.fresh hg1); have B1 := B0.out.on (hg1.block _ B0.out.lt); have S1' := Lib.hid (S0.out.trans (same_of (fun k hk => HO1.out k (.inl hk)) hg1)); have hz1 := hg1.size; obtain ⟨y0, y1, y2, y3, yf⟩ := B1.cells; clear hg1)
          | (go_at_call 70; refine (IT.out _).mono ?_; rintro e w2 ⟨rfl, hg2⟩; have K2 := Lib.hid (K1.out.fresh hg2); have S2' := Lib.hid (S1'.out.trans (same_of (fun k hk => Nat.lt_of_lt_of_le (HO1.out k (.inl hk)) hz1) hg2)); clear hg2))
      go_ret; exact ⟨rfl, SO.out _ _ K2.out, S2'.out⟩
  · rw [e1, e2] at *
    clear hG e1 e2 hv hw hr
    obtain ⟨ea, eb, ec, ed⟩ := e
    simp only [Ent.val] at *
    go_enter Tryz.func32, Tryz.ntmps32
    go_wp2_with (go_at_call 69; refine A.out.mono ?_; rintro e w1 ⟨rfl, hg1⟩; have K1 := Lib.hid (K0.out.fresh hg1); have S1' := Lib.hid (S0.out.trans (same_of (fun k hk => HO1.out k (.inl hk)) hg1)); clear hg1)
    go_ret; exact ⟨rfl, SO.out _ _ K1.out, S1'.out⟩
end Go.Proofs.YtnnjbonejbmgdaaGreat.Hr

/- What Drop of package hier does. Conditions: the queues are sound. -/
namespace Go.Proofs.YtnnjbonejbmgdaaGreat.Hr
open Go.ChangeShapes Go.WideShapes Go.ChangeAt Go.RowKit Tree Queue
set_option linter.unusedVariables false
set_option linter.unusedSimpArgs false
set_option maxRecDepth 100000

def errDropH (S : Hs) (g n : Int) : Int := match grp S g with
  | none => 1
  | some x => if 0 ≤ n ∧ n < 64 then errDrop x.q (2 * n) else 1
def dropH (S : Hs) (g n : Int) : Hs := match grp S g with
  | none => S
  | some x => if (0 ≤ n ∧ n < 64) ∧ named x.q.es (2 * n) = true then settleS 9 (S.set g.toNat (some { x with q := dropS x.q (2 * n) })) g.toNat else S
def dropE (S : Hs) (g n : Int) : Ent := match grp S g with
  | none => Ent.zero
  | some x => if (0 ≤ n ∧ n < 64) ∧ named x.q.es (2 * n) = true then { find x.q.es (2 * n) with id := n } else Ent.zero
/-- An entity stored whole. -/
def putE (w : World) (z : Nat) (f : Ent) : World := (((w.setCell ⟨z, 0, none⟩ (.int .i64 f.id)).setCell ⟨z, 1, none⟩ (.int .u64 f.wt)).setCell ⟨z, 2, none⟩ (.int .i64 f.v)).setCell ⟨z, 3, none⟩ (.int .u64 f.rm)
theorem Bx.all {w : World} {z : Nat} {e : Ent} (h : Bx w z e) (f : Ent) : Bx (putE w z f) z f := by
  unfold putE Bx at *
  rw [heap_setCell_same _ z 3 _ _ _ (heap_setCell_same _ z 2 _ _ _ (heap_setCell_same _ z 1 _ _ _ (heap_setCell_same w z 0 _ _ _ h)))]; rfl
theorem Hb.putE {w : World} {h : Nat} {O : Nat → Prop} {b qb : Nat → Nat} {S : Hs} (H : Hb w h O b qb S) {z : Nat} (hz : O z) (f : Ent) : Hb (putE w z f) h O b qb S :=
  (((H.away (p := ⟨z, 0, none⟩) hz _).away (p := ⟨z, 1, none⟩) hz _).away (p := ⟨z, 2, none⟩) hz _).away (p := ⟨z, 3, none⟩) hz _
theorem same_putE {O : Nat → Prop} {w : World} {z : Nat} (hz : ¬ O z) (f : Ent) : Same O w (putE w z f) :=
  (((Same.setCell (p := ⟨z, 0, none⟩) hz _).trans (Same.setCell (p := ⟨z, 1, none⟩) hz _)).trans (Same.setCell (p := ⟨z, 2, none⟩) hz _)).trans (Same.setCell (p := ⟨z, 3, none⟩) hz _)
theorem size_putE (w : World) (z : Nat) (f : Ent) : (putE w z f).heap.size = w.heap.size := by unfold putE; simp [size_setCell]
theorem Bx.away {w : World} {z : Nat} {e : Ent} (h : Bx w z e) {y : Nat} (hne : z ≠ y) (f : Ent) : Bx (putE w y f) z e := by
  unfold putE Bx at *
  rw [Below.heap_setCell _ _ _ _ hne, Below.heap_setCell _ _ _ _ hne, Below.heap_setCell _ _ _ _ hne, Below.heap_setCell _ _ _ _ hne]; exact h

/-- On the way through Drop: its result's box at z; and the box of what is dropped at y. -/
structure Dr (w : World) (h : Nat) (O : Nat → Prop) (b qb : Nat → Nat) (S : Hs) (z : Nat) (W : World) : Prop where
  k : Hb W h (With O z) b qb S
  bz : Bx W z Ent.zero
  same : Same O w W
  old : ∀ k, With O z k → k < W.heap.size
  nz : ¬ O z
structure Dw (w : World) (h : Nat) (O : Nat → Prop) (b qb : Nat → Nat) (S : Hs) (z y : Nat) (f : Ent) (W : World) : Prop where
  k : Hb W h (With (With O z) y) b qb S
  bz : Bx W z Ent.zero
  bx : Bx W y f
  ne : z ≠ y
  same : Same O w W
  old : ∀ k, With (With O z) y k → k < W.heap.size
  nz : ¬ O z
  ny : ¬ O y
section
variable {w W W' : World} {h : Nat} {O : Nat → Prop} {b qb : Nat → Nat} {S S' : Hs} {z y : Nat} {f : Ent}
theorem Dr.fresh (D : Dr w h O b qb S z W) (hg : Below W.heap.size W W') : Dr w h O b qb S z W' :=
  ⟨D.k.fresh hg, D.bz.on (hg.block _ D.bz.lt), D.same.trans (same_of (fun k hk => D.old k (.inl hk)) hg), fun k hk => Nat.lt_of_lt_of_le (D.old k hk) hg.size, D.nz⟩
theorem Dr.drew (D : Dr w h O b qb S z W) : Dr w h O b qb S z W.drew := D.fresh (drew_below W)
theorem Dr.did (D : Dr w h O b qb S z W) (K : Hb W' h (With O z) b qb S') (s : Same (With O z) W W') : Dr w h O b qb S' z W' :=
  ⟨K, D.bz.on (s.block _ (.inr rfl)), D.same.trans (s.mono fun k hk => .inl hk), fun k hk => Nat.lt_of_lt_of_le (D.old k hk) s.size, D.nz⟩
theorem Dr.alloc (D : Dr w h O b qb S z W) (f : Ent) : Dw w h O b qb S z W.heap.size f (W.alloc (.cells #[.int .i64 f.id, .int .u64 f.wt, .int .i64 f.v, .int .u64 f.rm] 34)) := by
  have hg := alloc1 W (.cells #[.int .i64 f.id, .int .u64 f.wt, .int .i64 f.v, .int .u64 f.rm] 34)
  have hz := D.bz.lt
  refine ⟨(D.k.other fun k hk => hk.imp id (fun e => by omega)).fresh hg, D.bz.on (hg.block _ hz), heap_alloc_new W _, by omega, D.same.trans (same_of (fun k hk => D.old k (.inl hk)) hg), ?_, D.nz, fun e => Nat.lt_irrefl _ (D.old _ (.inl e))⟩
  rintro k (hk | rfl)
  · exact Nat.lt_of_lt_of_le (D.old k hk) hg.size
  · simp
theorem Dw.fresh (D : Dw w h O b qb S z y f W) (hg : Below W.heap.size W W') : Dw w h O b qb S z y f W' :=
  ⟨D.k.fresh hg, D.bz.on (hg.block _ D.bz.lt), D.bx.on (hg.block _ D.bx.lt), D.ne, D.same.trans (same_of (fun k hk => D.old k (.inl (.inl hk))) hg), fun k hk => Nat.lt_of_lt_of_le (D.old k hk) hg.size, D.nz, D.ny⟩
theorem Dw.did (D : Dw w h O b qb S z y f W) (K : Hb W' h (With (With O z) y) b qb S') (s : Same (With (With O z) y) W W') : Dw w h O b qb S' z y f W' :=
  ⟨K, D.bz.on (s.block _ (.inl (.inr rfl))), D.bx.on (s.block _ (.inr rfl)), D.ne, D.same.trans (s.mono fun k hk => .inl (.inl hk)), fun k hk => Nat.lt_of_lt_of_le (D.old k hk) s.size, D.nz, D.ny⟩
theorem Dw.store (D : Dw w h O b qb S z y f W) (e : Ent) : Dw w h O b qb S z y e (putE W y e) :=
  ⟨D.k.putE (.inr rfl) e, D.bz.away D.ne e, D.bx.all e, D.ne, D.same.trans (same_putE D.ny e), fun k hk => by rw [size_putE]; exact D.old k hk, D.nz, D.ny⟩
theorem Dw.setId (D : Dw w h O b qb S z y f W) (n : Int) : Dw w h O b qb S z y { f with id := n } (W.setCell ⟨y, 0, none⟩ (.int .i64 n)) :=
  ⟨D.k.away (p := ⟨y, 0, none⟩) (.inr rfl) _, D.bz.on (Below.heap_setCell _ _ _ _ D.ne), D.bx.setId n, D.ne, D.same.trans (Same.setCell (p := ⟨y, 0, none⟩) D.ny _), fun k hk => by rw [size_setCell]; exact D.old k hk, D.nz, D.ny⟩
theorem Dw.done (D : Dw w h O b qb S z y f W) (e : Ent) : Hb (putE W z e) h O b qb S ∧ Same O w (putE W z e) ∧ Bx (putE W z e) z e :=
  ⟨(D.k.putE (.inl (.inr rfl)) e).other fun k hk => .inl (.inl (.inl hk)), D.same.trans (same_putE D.nz e), D.bz.all e⟩
theorem Dr.done (D : Dr w h O b qb S z W) (e : Ent) : Hb (putE W z e) h O b qb S ∧ Same O w (putE W z e) ∧ Bx (putE W z e) z e :=
  ⟨(D.k.putE (.inr rfl) e).other fun k hk => .inl (.inl hk), D.same.trans (same_putE D.nz e), D.bz.all e⟩
end
theorem drop_nil_ (w : World) (g n : Int) : Calls Tryz.prog 28 #[.pointer none, .int .i64 g, .int .i64 n] w (Is (.tuple #[Ent.zero.val, .int .i64 1]) w) := by
  have A := Lib.hid (fun w => at_nil g w)
  have B0 : Bx (w.alloc (.cells #[.int .i64 0, .int .u64 0, .int .i64 0, .int .u64 0] 34)) w.heap.size Ent.zero := heap_alloc_new w _
  go_enter Tryz.func28, Tryz.ntmps28
  go_wp2_with (go_at_call 69; refine (A.out _).mono ?_; rintro e w1 ⟨rfl, hg1⟩; have B1 := B0.on (hg1.block _ B0.lt); obtain ⟨y0, y1, y2, y3, yf⟩ := B1.cells; have yf0 := yf 0; have yf1 := yf 1; have yf2 := yf 2; have yf3 := yf 3; unfold Ent.zero at y0 y1 y2 y3; simp only at y0 y1 y2 y3)
  refine bodyPost_ret (v := .tuple #[Ent.zero.val, .int .i64 1]) (by simp [results, Tryz.results28, go_sem, Ent.zero, Ent.val, y0, y1, y2, y3]) rfl ?_
  exact ⟨rfl, (ft (alloc1 _ _) hg1).trans (Same.below ((((Same.setCell (O := (· < w.heap.size)) (p := ⟨w.heap.size, 0, none⟩) (by simp) _).trans (Same.setCell (p := ⟨w.heap.size, 1, none⟩) (by simp) _)).trans (Same.setCell (p := ⟨w.heap.size, 2, none⟩) (by simp) _)).trans (Same.setCell (p := ⟨w.heap.size, 3, none⟩) (by simp) _)))⟩
set_option maxHeartbeats 4000000 in
theorem drop_ (w : World) (h : Nat) (O : Nat → Prop) (b qb : Nat → Nat) (S : Hs) (H : Hb w h O b qb S) (hO : ∀ k, O k → k < w.heap.size) {dep : Nat → Nat} (hG : GoodD dep S) (g n : Int) :
    Calls Tryz.prog 28 #[.pointer (some ⟨h, 0, none⟩), .int .i64 g, .int .i64 n] w (DidH (.tuple #[(dropE S g n).val, .int .i64 (errDropH S g n)]) (dropH S g n) h O b qb w) := by
  have hz0 : ¬ O w.heap.size := fun e => Nat.lt_irrefl _ (hO _ e)
  have D0 : Hid (Dr w h O b qb S w.heap.size (w.alloc (.cells #[.int .i64 0, .int .u64 0, .int .i64 0, .int .u64 0] 34))) := by
    refine Lib.hid ⟨(H.other fun k hk => hk.imp id (fun e => by omega)).fresh (alloc1 w _), heap_alloc_new w _, same_of hO (alloc1 w _), ?_, hz0⟩
    rintro k (hk | rfl)
    · have := hO k hk; simp; omega
    · simp
  have A := Lib.hid (at_ _ h (With O w.heap.size) b qb S D0.out.k g)
  have IT := Lib.hid (fun w => isTask_ n w)
  clear hO H hz0
  unfold errDropH dropH dropE
  rcases grp_cases S g with ⟨i, x, rfl, hi, hx, e1, e2⟩ | ⟨e1, e2⟩
  · rw [e1, e2] at *
    simp only [Int.toNat_natCast]
    by_cases ht : 0 ≤ n ∧ n < 64
    · rw [if_pos ht]
      simp only [ht, true_and]
      rw [decide_eq_true ht] at IT
      have ID := Lib.hid (fun w => idOfTask_ n w ht.1 ht.2)
      have hsx := hG.q i x hx
      have DR : Hid (∀ O' w1, Hb w1 h O' b qb S → (∀ k, O' k → k < w1.heap.size) → Calls Tryz.prog 71 #[.pointer (some ⟨qb i, 0, none⟩), .int .i64 (2 * n)] w1
          (DidH (.tuple #[(find x.q.es (2 * n)).val, .int .i64 (errDrop x.q (2 * n))]) (S.set i (some { x with q := dropS x.q (2 * n) })) h O' b qb w1)) := by
        refine Lib.hid fun O' w1 K hk => ?_
        obtain ⟨Oq, q1, q2, q3, q4⟩ := K.que hk hx
        refine (dropss w1 (qb i) Oq x.q (2 * n) q1 q2 hsx (by unfold I64; omega)).mono ?_
        rintro e w2 ⟨rfl, g1, g2⟩
        exact ⟨rfl, q4 _ _ g1 g2, g2.mono q3⟩
      have QP : Hid (∀ O' w1, Hb w1 h O' b qb S → w1.cell? ⟨b i, 1, none⟩ = some (.pointer (some ⟨qb i, 0, none⟩))) := Lib.hid fun O' w1 K => (K.cells hx).2.1
      have QP' : Hid (∀ O' w1, Hb w1 h O' b qb (S.set i (some { x with q := dropS x.q (2 * n) })) → w1.cell? ⟨b i, 1, none⟩ = some (.pointer (some ⟨qb i, 0, none⟩))) := Lib.hid fun O' w1 K => (K.cells (Hs.set_same _ _ _)).2.1
      by_cases hz : named x.q.es (2 * n) = true
      · rw [if_pos hz, if_pos hz]
        have hG' := hG.drop hx hz (by omega)
        have SE := Lib.hid (fun w1 O' (K : Hb w1 h O' b qb (S.set i (some { x with q := dropS x.q (2 * n) }))) (hk : ∀ k, O' k → k < w1.heap.size) => settle_ w1 h O' b qb _ K hk hG' (Hs.set_same _ _ _))
        have hed : errDrop x.q (2 * n) = 0 := by unfold errDrop; rw [if_pos hz]
        rw [hed] at DR ⊢
        clear hG hG' hx hsx hz e1 e2 hi hed
        generalize S.set i (some { x with q := dropS x.q (2 * n) }) = S1 at *
        generalize settleS 9 S1 i = S2 at *
        generalize find x.q.es (2 * n) = f at *
        obtain ⟨fa, fb, fc, fd⟩ := f
        simp only [Ent.val] at *
        go_enter Tryz.func28, Tryz.ntmps28
        go_wp2_with (first
          | (go_at_call 69; refine A.out.mono ?_; rintro e w1 ⟨rfl, hg1⟩; have D1 := Lib.hid (D0.out.fresh hg1); clear hg1)
          | (go_at_call 70; refine (IT.out _).mono ?_; rintro e w2 ⟨rfl, hg2⟩; have D2 := Lib.hid (D1.out.fresh hg2); clear hg2 D1))
        have q2 := QP.out _ _ D2.out.drew.k
        have q2z := QP.out _ _ (D2.out.drew.alloc Ent.zero).k
        go_region_held3 (fun w' => w'.cell? ⟨b i, 1, none⟩ = some (.pointer (some ⟨qb i, 0, none⟩))) (first | exact q2 | exact q2z | exact q3 | exact q3z | exact q5 | exact q6 | exact q6z | go_keep)
          (first
            | (go_at_call 72; refine (ID.out _).mono ?_; rintro e w3 ⟨rfl, hg3⟩; have D3 := Lib.hid (D2.out.drew.fresh hg3); have q3 := QP.out _ _ D3.out.k; have q3z := QP.out _ _ (D3.out.alloc Ent.zero).k; clear hg3)
            | (go_at_call 72; refine (ID.out _).mono ?_; rintro e w3 ⟨rfl, hg3⟩; have D3 : Hid (Dw w h O b qb S w.heap.size w2.heap.size Ent.zero w3) := Lib.hid ((D2.out.drew.alloc Ent.zero).fresh hg3); have q3 := QP.out _ _ D3.out.k; clear hg3)
            | (go_at_call 71; refine (DR.out _ _ D3.out.k D3.out.old).mono ?_; rintro e w5 ⟨rfl, K5, s5⟩; have D5 := Lib.hid (D3.out.did K5 s5); have q5 := QP'.out _ _ K5; clear K5 s5 q2 q2z q3; try (obtain ⟨y0, y1, y2, y3, yf⟩ := D5.out.bx.cells; have yf0 := yf 0; have yf1 := yf 1; have yf2 := yf 2; have yf3 := yf 3; unfold Ent.zero at y0 y1 y2 y3; simp only at y0 y1 y2 y3; have q6 := QP'.out _ _ (D5.out.store ⟨fa, fb, fc, fd⟩).k); try (have q6 := QP'.out _ _ (D5.out.alloc ⟨fa, fb, fc, fd⟩).k; have q6z := QP'.out _ _ (D5.out.alloc Ent.zero).k))
            | (go_at_call 71; refine (DR.out _ _ (D3.out.alloc Ent.zero).k (D3.out.alloc Ent.zero).old).mono ?_; rintro e w5 ⟨rfl, K5, s5⟩; have D5 := Lib.hid ((D3.out.alloc Ent.zero).did K5 s5); have q5 := QP'.out _ _ K5; clear K5 s5 q2 q2z q3; try (obtain ⟨y0, y1, y2, y3, yf⟩ := D5.out.bx.cells; have yf0 := yf 0; have yf1 := yf 1; have yf2 := yf 2; have yf3 := yf 3; unfold Ent.zero at y0 y1 y2 y3; simp only at y0 y1 y2 y3; have q6 := QP'.out _ _ (D5.out.store ⟨fa, fb, fc, fd⟩).k); try (have q6 := QP'.out _ _ (D5.out.alloc ⟨fa, fb, fc, fd⟩).k; have q6z := QP'.out _ _ (D5.out.alloc Ent.zero).k)))
        all_goals
          first
            | (have D6 : Hid (Dw w h O b qb S1 w.heap.size w5.heap.size ⟨fa, fb, fc, fd⟩ (w5.alloc (.cells #[.int .i64 fa, .int .u64 fb, .int .i64 fc, .int .u64 fd] 34))) := Lib.hid (D5.out.alloc ⟨fa, fb, fc, fd⟩)
               clear D5 D3 D2
               try clear q5
               try clear q6
               try clear q6z
               try clear y0 y1 y2 y3 yf yf0 yf1 yf2 yf3
               generalize (w5.alloc (.cells #[.int .i64 fa, .int .u64 fb, .int .i64 fc, .int .u64 fd] 34)) = W6 at *
               generalize w5.heap.size = y at *)
            | (have D6 : Hid (Dw w h O b qb S1 w.heap.size w3.heap.size ⟨fa, fb, fc, fd⟩ ((((w5.setCell ⟨w3.heap.size, 0, none⟩ (.int .i64 fa)).setCell ⟨w3.heap.size, 1, none⟩ (.int .u64 fb)).setCell ⟨w3.heap.size, 2, none⟩ (.int .i64 fc)).setCell ⟨w3.heap.size, 3, none⟩ (.int .u64 fd))) := Lib.hid (D5.out.store ⟨fa, fb, fc, fd⟩)
               clear D5 D3 D2
               try clear q5
               try clear q6
               try clear q6z
               try clear y0 y1 y2 y3 yf yf0 yf1 yf2 yf3
               generalize ((((w5.setCell ⟨w3.heap.size, 0, none⟩ (.int .i64 fa)).setCell ⟨w3.heap.size, 1, none⟩ (.int .u64 fb)).setCell ⟨w3.heap.size, 2, none⟩ (.int .i64 fc)).setCell ⟨w3.heap.size, 3, none⟩ (.int .u64 fd)) = W6 at *
               generalize w3.heap.size = y at *)
            | (have D6 : Hid (Dw w h O b qb S1 w.heap.size w2.heap.size ⟨fa, fb, fc, fd⟩ ((((w5.setCell ⟨w2.heap.size, 0, none⟩ (.int .i64 fa)).setCell ⟨w2.heap.size, 1, none⟩ (.int .u64 fb)).setCell ⟨w2.heap.size, 2, none⟩ (.int .i64 fc)).setCell ⟨w2.heap.size, 3, none⟩ (.int .u64 fd))) := Lib.hid (D5.out.store ⟨fa, fb, fc, fd⟩)
               clear D5 D3 D2
               try clear q5
               try clear q6
               try clear q6z
               try clear y0 y1 y2 y3 yf yf0 yf1 yf2 yf3
               generalize ((((w5.setCell ⟨w2.heap.size, 0, none⟩ (.int .i64 fa)).setCell ⟨w2.heap.size, 1, none⟩ (.int .u64 fb)).setCell ⟨w2.heap.size, 2, none⟩ (.int .i64 fc)).setCell ⟨w2.heap.size, 3, none⟩ (.int .u64 fd)) = W6 at *
               generalize w2.heap.size = y at *)
          go_wp2_with (go_at_call 73; refine (SE.out _ _ D6.out.k D6.out.old).mono ?_; rintro e w7 ⟨rfl, K7, s7⟩; have D7 := Lib.hid (D6.out.did K7 s7); obtain ⟨y0, y1, y2, y3, yf⟩ := D7.out.bx.cells; have yf0 := yf 0; obtain ⟨z0, z1, z2, z3, zf⟩ := D7.out.bz.cells; have zf0 := zf 0; have zf1 := zf 1; have zf2 := zf 2; have zf3 := zf 3; have hyz : ¬ y = w.heap.size := fun e => D7.out.ne e.symm; have hzy : ¬ w.heap.size = y := D7.out.ne; unfold Ent.zero at z0 z1 z2 z3; simp only at z0 z1 z2 z3 y0 y1 y2 y3)
          have D8 := (D7.out.setId n).done ⟨n, fb, fc, fd⟩
          obtain ⟨K9, s9, B9⟩ := D8
          obtain ⟨r0, r1, r2, r3, _⟩ := B9.cells
          unfold putE at *
          simp only at *
          refine bodyPost_ret (v := .tuple #[.agg #[.int .i64 n, .int .u64 fb, .int .i64 fc, .int .u64 fd], .int .i64 0]) (by simp [results, Tryz.results28, go_sem, r0, r1, r2, r3]) rfl ?_
          exact ⟨rfl, K9, s9⟩
      · rw [if_neg hz, if_neg hz]
        have hn : named x.q.es (2 * n) = false := by simpa using hz
        have hS : S.set i (some { x with q := dropS x.q (2 * n) }) = S := by
          rw [show dropS x.q (2 * n) = x.q by unfold dropS; rw [if_neg hz]]; exact set_self hx
        have hed : errDrop x.q (2 * n) = 12 := by unfold errDrop; rw [if_neg hz]
        rw [hS, hed, find_not hn] at DR
        rw [hS] at QP'
        rw [hed]
        clear hG hx hsx hz e1 e2 hi hed hn hS
        obtain ⟨fa, fb, fc, fd, ha, hb, hc, hd⟩ : ∃ fa fb fc fd : Int, fa = 0 ∧ fb = 0 ∧ fc = 0 ∧ fd = 0 := ⟨0, 0, 0, 0, rfl, rfl, rfl, rfl⟩
        subst ha hb hc hd
        simp only [Ent.val, Ent.zero] at *
        go_enter Tryz.func28, Tryz.ntmps28
        go_wp2_with (first
          | (go_at_call 69; refine A.out.mono ?_; rintro e w1 ⟨rfl, hg1⟩; have D1 := Lib.hid (D0.out.fresh hg1); clear hg1)
          | (go_at_call 70; refine (IT.out _).mono ?_; rintro e w2 ⟨rfl, hg2⟩; have D2 := Lib.hid (D1.out.fresh hg2); clear hg2 D1))
        have q2 := QP.out _ _ D2.out.drew.k
        have q2z := QP.out _ _ (D2.out.drew.alloc Ent.zero).k
        go_region_held3 (fun w' => w'.cell? ⟨b i, 1, none⟩ = some (.pointer (some ⟨qb i, 0, none⟩))) (first | exact q2 | exact q2z | exact q3 | exact q3z | exact q5 | exact q6 | exact q6z | go_keep)
          (first
            | (go_at_call 72; refine (ID.out _).mono ?_; rintro e w3 ⟨rfl, hg3⟩; have D3 := Lib.hid (D2.out.drew.fresh hg3); have q3 := QP.out _ _ D3.out.k; have q3z := QP.out _ _ (D3.out.alloc Ent.zero).k; clear hg3)
            | (go_at_call 72; refine (ID.out _).mono ?_; rintro e w3 ⟨rfl, hg3⟩; have D3 : Hid (Dw w h O b qb S w.heap.size w2.heap.size Ent.zero w3) := Lib.hid ((D2.out.drew.alloc Ent.zero).fresh hg3); have q3 := QP.out _ _ D3.out.k; clear hg3)
            | (go_at_call 71; refine (DR.out _ _ D3.out.k D3.out.old).mono ?_; rintro e w5 ⟨rfl, K5, s5⟩; have D5 := Lib.hid (D3.out.did K5 s5); have q5 := QP'.out _ _ K5; clear K5 s5 q2 q2z q3; try (obtain ⟨y0, y1, y2, y3, yf⟩ := D5.out.bx.cells; have yf0 := yf 0; have yf1 := yf 1; have yf2 := yf 2; have yf3 := yf 3; unfold Ent.zero at y0 y1 y2 y3; simp only at y0 y1 y2 y3; have q6 := QP'.out _ _ (D5.out.store ⟨0, 0, 0, 0⟩).k); try (have q6 := QP'.out _ _ (D5.out.alloc ⟨0, 0, 0, 0⟩).k; have q6z := QP'.out _ _ (D5.out.alloc Ent.zero).k))
            | (go_at_call 71; refine (DR.out _ _ (D3.out.alloc Ent.zero).k (D3.out.alloc Ent.zero).old).mono ?_; rintro e w5 ⟨rfl, K5, s5⟩; have D5 := Lib.hid ((D3.out.alloc Ent.zero).did K5 s5); have q5 := QP'.out _ _ K5; clear K5 s5 q2 q2z q3; try (obtain ⟨y0, y1, y2, y3, yf⟩ := D5.out.bx.cells; have yf0 := yf 0; have yf1 := yf 1; have yf2 := yf 2; have yf3 := yf 3; unfold Ent.zero at y0 y1 y2 y3; simp only at y0 y1 y2 y3; have q6 := QP'.out _ _ (D5.out.store ⟨0, 0, 0, 0⟩).k); try (have q6 := QP'.out _ _ (D5.out.alloc ⟨0, 0, 0, 0⟩).k; have q6z := QP'.out _ _ (D5.out.alloc Ent.zero).k)))
        all_goals
          first
            | (have D6 : Hid (Dw w h O b qb S w.heap.size w5.heap.size ⟨0, 0, 0, 0⟩ (w5.alloc (.cells #[.int .i64 0, .int .u64 0, .int .i64 0, .int .u64 0] 34))) := Lib.hid (D5.out.alloc ⟨0, 0, 0, 0⟩)
               clear D5 D3 D2
               try clear q5
               try clear q6
               try clear q6z
               try clear y0 y1 y2 y3 yf yf0 yf1 yf2 yf3
               generalize (w5.alloc (.cells #[.int .i64 0, .int .u64 0, .int .i64 0, .int .u64 0] 34)) = W6 at *
               generalize w5.heap.size = y at *)
            | (have D6 : Hid (Dw w h O b qb S w.heap.size w3.heap.size ⟨0, 0, 0, 0⟩ ((((w5.setCell ⟨w3.heap.size, 0, none⟩ (.int .i64 0)).setCell ⟨w3.heap.size, 1, none⟩ (.int .u64 0)).setCell ⟨w3.heap.size, 2, none⟩ (.int .i64 0)).setCell ⟨w3.heap.size, 3, none⟩ (.int .u64 0))) := Lib.hid (D5.out.store ⟨0, 0, 0, 0⟩)
               clear D5 D3 D2
               try clear q5
               try clear q6
               try clear q6z
               try clear y0 y1 y2 y3 yf yf0 yf1 yf2 yf3
               generalize ((((w5.setCell ⟨w3.heap.size, 0, none⟩ (.int .i64 0)).setCell ⟨w3.heap.size, 1, none⟩ (.int .u64 0)).setCell ⟨w3.heap.size, 2, none⟩ (.int .i64 0)).setCell ⟨w3.heap.size, 3, none⟩ (.int .u64 0)) = W6 at *
               generalize w3.heap.size = y at *)
            | (have D6 : Hid (Dw w h O b qb S w.heap.size w2.heap.size ⟨0, 0, 0, 0⟩ ((((w5.setCell ⟨w2.heap.size, 0, none⟩ (.int .i64 0)).setCell ⟨w2.heap.size, 1, none⟩ (.int .u64 0)).setCell ⟨w2.heap.size, 2, none⟩ (.int .i64 0)).setCell ⟨w2.heap.size, 3, none⟩ (.int .u64 0))) := Lib.hid (D5.out.store ⟨0, 0, 0, 0⟩)
               clear D5 D3 D2
               try clear q5
               try clear q6
               try clear q6z
               try clear y0 y1 y2 y3 yf yf0 yf1 yf2 yf3
               generalize ((((w5.setCell ⟨w2.heap.size, 0, none⟩ (.int .i64 0)).setCell ⟨w2.heap.size, 1, none⟩ (.int .u64 0)).setCell ⟨w2.heap.size, 2, none⟩ (.int .i64 0)).setCell ⟨w2.heap.size, 3, none⟩ (.int .u64 0)) = W6 at *
               generalize w2.heap.size = y at *)
          obtain ⟨z0, z1, z2, z3, zf⟩ := D6.out.bz.cells
          have zf0 := zf 0
          have zf1 := zf 1
          have zf2 := zf 2
          have zf3 := zf 3
          unfold Ent.zero at z0 z1 z2 z3
          simp only at z0 z1 z2 z3
          go_wp2_with fail
          obtain ⟨K9, s9, B9⟩ := D6.out.done ⟨0, 0, 0, 0⟩
          obtain ⟨r0, r1, r2, r3, _⟩ := B9.cells
          unfold putE at *
          simp only at *
          refine bodyPost_ret (v := .tuple #[.agg #[.int .i64 0, .int .u64 0, .int .i64 0, .int .u64 0], .int .i64 12]) (by simp [results, Tryz.results28, go_sem, r0, r1, r2, r3]) rfl ?_
          exact ⟨rfl, K9, s9⟩
    · rw [if_neg ht, if_neg (fun k => ht k.1), if_neg (fun k => ht k.1)]
      rw [decide_eq_false ht] at IT
      clear hG hx e1 e2 hi
      simp only [Ent.val, Ent.zero] at *
      go_enter Tryz.func28, Tryz.ntmps28
      go_wp2_with (first
          | (go_at_call 69; refine A.out.mono ?_; rintro e w1 ⟨rfl, hg1⟩; have D1 := Lib.hid (D0.out.fresh hg1); clear hg1)
          | (go_at_call 70; refine (IT.out _).mono ?_; rintro e w2 ⟨rfl, hg2⟩; have D6 := Lib.hid (D1.out.fresh hg2); clear hg2; obtain ⟨z0, z1, z2, z3, zf⟩ := D6.out.bz.cells; have zf0 := zf 0; have zf1 := zf 1; have zf2 := zf 2; have zf3 := zf 3; unfold Ent.zero at z0 z1 z2 z3; simp only at z0 z1 z2 z3))
      obtain ⟨K9, s9, B9⟩ := D6.out.done ⟨0, 0, 0, 0⟩
      obtain ⟨r0, r1, r2, r3, _⟩ := B9.cells
      unfold putE at *
      simp only at *
      refine bodyPost_ret (v := .tuple #[.agg #[.int .i64 0, .int .u64 0, .int .i64 0, .int .u64 0], .int .i64 1]) (by simp [results, Tryz.results28, go_sem, r0, r1, r2, r3]) rfl ?_
      exact ⟨rfl, K9, s9⟩
  · rw [e1, e2] at *
    clear hG e1 e2
    simp only [Ent.val, Ent.zero] at *
    go_enter Tryz.func28, Tryz.ntmps28
    go_wp2_with (go_at_call 69; refine A.out.mono ?_; rintro e w1 ⟨rfl, hg1⟩; have D6 := Lib.hid (D0.out.fresh hg1); clear hg1; obtain ⟨z0, z1, z2, z3, zf⟩ := D6.out.bz.cells; have zf0 := zf 0; have zf1 := zf 1; have zf2 := zf 2; have zf3 := zf 3; unfold Ent.zero at z0 z1 z2 z3; simp only at z0 z1 z2 z3)
    obtain ⟨K9, s9, B9⟩ := D6.out.done ⟨0, 0, 0, 0⟩
    obtain ⟨r0, r1, r2, r3, _⟩ := B9.cells
    unfold putE at *
    simp only at *
    refine bodyPost_ret (v := .tuple #[.agg #[.int .i64 0, .int .u64 0, .int .i64 0, .int .u64 0], .int .i64 1]) (by simp [results, Tryz.results28, go_sem, r0, r1, r2, r3]) rfl ?_
    exact ⟨rfl, K9, s9⟩
end Go.Proofs.YtnnjbonejbmgdaaGreat.Hr

/- What Nice and Stop of package hier do. Conditions: the queues are sound. -/
namespace Go.Proofs.YtnnjbonejbmgdaaGreat.Hr
open Go.ChangeShapes Go.WideShapes Go.ChangeAt Go.RowKit Tree Queue
set_option linter.unusedVariables false
set_option linter.unusedSimpArgs false
set_option maxRecDepth 100000

def errNiceH (S : Hs) (g n wt : Int) : Int := match grp S g with
  | none => 1
  | some x => if 0 ≤ n ∧ n < 64 then errWeigh x.q (2 * n) wt else 1
def niceH (S : Hs) (g n wt : Int) : Hs := match grp S g with
  | none => S
  | some x => if 0 ≤ n ∧ n < 64 then S.set g.toNat (some { x with q := weighS x.q (2 * n) wt }) else S
theorem nice_nil_ (w : World) (g n wt : Int) : Calls Tryz.prog 33 #[.pointer none, .int .i64 g, .int .i64 n, .int .u64 wt] w (Is (.int .i64 1) w) := by
  have A := Lib.hid (fun w => at_nil g w)
  go_enter Tryz.func33, Tryz.ntmps33
  go_wp2_with (go_at_call 69; refine (A.out _).mono ?_; rintro e w1 ⟨rfl, hg1⟩)
  go_ret; exact ⟨rfl, hg1⟩
set_option maxHeartbeats 4000000 in
theorem nice_ (w : World) (h : Nat) (O : Nat → Prop) (b qb : Nat → Nat) (S : Hs) (H : Hb w h O b qb S) (hO : ∀ k, O k → k < w.heap.size) {dep : Nat → Nat} (hG : GoodD dep S) (g n wt : Int) (hw : 0 ≤ wt) :
    Calls Tryz.prog 33 #[.pointer (some ⟨h, 0, none⟩), .int .i64 g, .int .i64 n, .int .u64 wt] w (DidH (.int .i64 (errNiceH S g n wt)) (niceH S g n wt) h O b qb w) := by
  have A := Lib.hid (at_ w h O b qb S H g)
  have IT := Lib.hid (fun w => isTask_ n w)
  have HO := Lib.hid hO
  have K0 := Lib.hid H
  clear hO H
  unfold errNiceH niceH
  rcases grp_cases S g with ⟨i, x, rfl, hi, hx, e1, e2⟩ | ⟨e1, e2⟩
  · rw [e1, e2] at *
    simp only [Int.toNat_natCast]
    by_cases ht : 0 ≤ n ∧ n < 64
    · rw [if_pos ht, if_pos ht]
      rw [decide_eq_true ht] at IT
      have ID := Lib.hid (fun w => idOfTask_ n w ht.1 ht.2)
      have hsx := hG.q i x hx
      have WG : Hid (∀ w1, Hb w1 h O b qb S → (∀ k, O k → k < w1.heap.size) → Calls Tryz.prog 83 #[.pointer (some ⟨qb i, 0, none⟩), .int .i64 (2 * n), .int .u64 wt] w1
          (DidH (.int .i64 (errWeigh x.q (2 * n) wt)) (S.set i (some { x with q := weighS x.q (2 * n) wt })) h O b qb w1)) := by
        refine Lib.hid fun w1 K hk => ?_
        obtain ⟨Oq, q1, q2, q3, q4⟩ := K.que hk hx
        refine (weighs w1 (qb i) Oq x.q (2 * n) wt q1 q2 hsx (by unfold I64; omega) hw).mono ?_
        rintro e w2 ⟨rfl, g1, g2⟩
        exact ⟨rfl, q4 _ _ g1 g2, g2.mono q3⟩
      have QP : Hid (∀ w1, Hb w1 h O b qb S → w1.cell? ⟨b i, 1, none⟩ = some (.pointer (some ⟨qb i, 0, none⟩))) := Lib.hid fun w1 K => (K.cells hx).2.1
      have QP' : Hid (∀ w1, Hb w1 h O b qb (S.set i (some { x with q := weighS x.q (2 * n) wt })) → w1.cell? ⟨b i, 1, none⟩ = some (.pointer (some ⟨qb i, 0, none⟩))) := Lib.hid fun w1 K => (K.cells (Hs.set_same _ _ _)).2.1
      clear hG hx hsx e1 e2 hi
      generalize S.set i (some { x with q := weighS x.q (2 * n) wt }) = S1 at *
      generalize errWeigh x.q (2 * n) wt = er at *
      go_enter Tryz.func33, Tryz.ntmps33
      go_wp2_with (first
        | (go_at_call 69; refine A.out.mono ?_; rintro e w1 ⟨rfl, hg1⟩; have K1 := Lib.hid (K0.out.fresh hg1); have S1' := Lib.hid (same_of HO.out hg1); have hz1 := hg1.size; clear hg1)
        | (go_at_call 70; refine (IT.out _).mono ?_; rintro e w2 ⟨rfl, hg2⟩; have K2 := Lib.hid (K1.out.fresh hg2); have S2' := Lib.hid (S1'.out.trans (same_of (fun k hk => Nat.lt_of_lt_of_le (HO.out k hk) hz1) hg2)); have hz2 := hg2.size; clear hg2))
      have HO2 : Hid (∀ k, O k → k < w2.heap.size) := Lib.hid fun k hk => by have := HO.out k hk; omega
      have q2 := QP.out _ K2.out
      go_region_held3 (fun w' => w'.cell? ⟨b i, 1, none⟩ = some (.pointer (some ⟨qb i, 0, none⟩))) (first | exact q2 | exact q3 | exact q5)
        (first
          | (go_at_call 72; refine (ID.out _).mono ?_; rintro e w3 ⟨rfl, hg3⟩; replace hg3 := undrew hg3; have K3 := Lib.hid (K2.out.fresh hg3); have q3 := QP.out _ K3.out; have S3' := Lib.hid (S2'.out.trans (same_of HO2.out hg3)); have HO3 : Hid (∀ k, O k → k < w3.heap.size) := Lib.hid (fun k hk => Nat.lt_of_lt_of_le (HO2.out k hk) hg3.size); clear hg3)
          | (go_at_call 83; refine (WG.out _ K3.out HO3.out).mono ?_; rintro e w5 ⟨rfl, K5, s5⟩; have q5 := QP'.out _ K5))
      go_wp2_with fail
      go_ret; exact ⟨rfl, K5, S3'.out.trans s5⟩
    · rw [if_neg ht, if_neg ht]
      rw [decide_eq_false ht] at IT
      clear hG hx e1 e2 hi
      go_enter Tryz.func33, Tryz.ntmps33
      go_wp2_with (first
        | (go_at_call 69; refine A.out.mono ?_; rintro e w1 ⟨rfl, hg1⟩; have K1 := Lib.hid (K0.out.fresh hg1); have S1' := Lib.hid (same_of HO.out hg1); have hz1 := hg1.size; clear hg1)
        | (go_at_call 70; refine (IT.out _).mono ?_; rintro e w2 ⟨rfl, hg2⟩; have K2 := Lib.hid (K1.out.fresh hg2); have S2' := Lib.hid (S1'.out.trans (same_of (fun k hk => Nat.lt_of_lt_of_le (HO.out k hk) hz1) hg2)); clear hg2))
      go_ret; exact ⟨rfl, K2.out, S2'.out⟩
  · rw [e1, e2] at *
    clear hG e1 e2
    go_enter Tryz.func33, Tryz.ntmps33
    go_wp2_with (go_at_call 69; refine A.out.mono ?_; rintro e w1 ⟨rfl, hg1⟩; have K1 := Lib.hid (K0.out.fresh hg1); have S1' := Lib.hid (same_of HO.out hg1); clear hg1)
    go_ret; exact ⟨rfl, K1.out, S1'.out⟩

/-! ### Stop -/
def errL (S : Hs) (g : Int) : Int := match lnk S g with
  | none => 1
  | some _ => 0
def stopH (S : Hs) (g : Int) (is : Bool) : Hs := match lnk S g with
  | none => S
  | some x => settleS 9 (S.set g.toNat (some { x with halt := is })) g.toNat
theorem stop_nil_ (w : World) (g : Int) (is : Bool) : Calls Tryz.prog 35 #[.pointer none, .int .i64 g, .bool is] w (Is (.int .i64 1) w) := by
  have A := Lib.hid (fun w => linked_nil g w)
  go_enter Tryz.func35, Tryz.ntmps35
  go_wp2_with (go_at_call 62; refine (A.out _).mono ?_; rintro e w1 ⟨rfl, hg1⟩)
  go_ret; exact ⟨rfl, hg1⟩
set_option maxHeartbeats 4000000 in
theorem stop_ (w : World) (h : Nat) (O : Nat → Prop) (b qb : Nat → Nat) (S : Hs) (H : Hb w h O b qb S) (hO : ∀ k, O k → k < w.heap.size) {dep : Nat → Nat} (hG : GoodD dep S) (g : Int) (is : Bool) :
    Calls Tryz.prog 35 #[.pointer (some ⟨h, 0, none⟩), .int .i64 g, .bool is] w (DidH (.int .i64 (errL S g)) (stopH S g is) h O b qb w) := by
  have A := Lib.hid (linked_ w h O b qb S H g)
  have HO := Lib.hid hO
  have K0 := Lib.hid H
  clear hO H
  unfold errL stopH
  rcases lnk_cases S g with ⟨i, x, rfl, h0, hi, hx, e1, e2⟩ | ⟨e1, e2⟩
  · rw [e1, e2] at *
    simp only [Int.toNat_natCast]
    have hG' := hG.halt_ hx is
    have SE := Lib.hid (fun w1 (K : Hb w1 h O b qb (S.set i (some { x with halt := is }))) (hk : ∀ k, O k → k < w1.heap.size) => settle_ w1 h O b qb _ K hk hG' (Hs.set_same _ _ _))
    have QP : Hid (∀ w1, Hb w1 h O b qb S → w1.cell? ⟨b i, 7, none⟩ = some (.bool x.halt) ∧ w1.frozen? ⟨b i, 7, none⟩ = false ∧ ¬ O (b i)) := Lib.hid fun w1 K => ⟨(K.cells hx).2.2.2.2.2.2.2.1, (K.cells hx).2.2.2.2.2.2.2.2 7, K.apart hx⟩
    have PU : Hid (∀ w1, Hb w1 h O b qb S → Hb (w1.setCell ⟨b i, 7, none⟩ (.bool is)) h O b qb (S.set i (some { x with halt := is }))) := Lib.hid fun w1 K => K.put hx (x' := { x with halt := is }) rfl 7 (.bool is) rfl
    clear hG hG' hx e1 e2 hi h0
    generalize S.set i (some { x with halt := is }) = S1 at *
    generalize settleS 9 S1 i = S2 at *
    go_enter Tryz.func35, Tryz.ntmps35
    go_wp2_with (first
      | (go_at_call 62; refine A.out.mono ?_; rintro e w1 ⟨rfl, hg1⟩; have K1 := Lib.hid (K0.out.fresh hg1); have S1' := Lib.hid (same_of HO.out hg1); have hz1 := hg1.size; obtain ⟨c7, f7, n7⟩ := QP.out _ K1.out; clear hg1)
      | (go_at_call 73; refine (SE.out _ (PU.out _ K1.out) (fun k hk => by rw [size_setCell]; exact Nat.lt_of_lt_of_le (HO.out k hk) hz1)).mono ?_; rintro e w2 ⟨rfl, K2, s2⟩))
    go_ret; exact ⟨rfl, K2, (S1'.out.trans (Same.setCell (p := ⟨b i, 7, none⟩) n7 _)).trans s2⟩
  · rw [e1, e2] at *
    clear hG e1 e2
    go_enter Tryz.func35, Tryz.ntmps35
    go_wp2_with (go_at_call 62; refine A.out.mono ?_; rintro e w1 ⟨rfl, hg1⟩; have K1 := Lib.hid (K0.out.fresh hg1); have S1' := Lib.hid (same_of HO.out hg1); clear hg1)
    go_ret; exact ⟨rfl, K1.out, S1'.out⟩
end Go.Proofs.YtnnjbonejbmgdaaGreat.Hr
