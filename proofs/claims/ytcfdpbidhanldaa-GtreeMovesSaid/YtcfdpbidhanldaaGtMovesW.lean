/- The walk of GtreeMoves. Conditions: the arguments are a slice of numbers of 8 bits and two such numbers. -/
import Derived.Test.YtcfdpbidhanldaaGtSame
import Derived.Test.YtcfdpbidhanldaaGtUnderW
namespace Go.Proofs.Ytcfdpbidhanldaa.Gt
open Go.ChangeShapes Go.WideShapes Go.ChangeAt Go.RowKit Hp
set_option linter.unusedVariables false
set_option linter.unusedSimpArgs false

theorem infoS : (Try.prog.info? 26).map (fun i => (i.zero, i.size, i.bytes)) = some (some (.slice none 0 0), 1, 24) := by kernel_rfl
/-- The paths that were told, each a row of its own. -/
def Was (w : World) (B : Nat) (st : St) (T : List (Int × Int)) (k : Nat) (vs : List Value) : Prop :=
  vs.length = k ∧ ∀ j, j < k → ∃ p u, T[j]? = some p ∧ vs[j]? = some u ∧ w.ownsRow B 3 1 u (pathOf p.1 (upsOf st p.1 p.2)).length (ints (pathOf p.1 (upsOf st p.1 p.2)))
theorem Was.fresh {w w' : World} {B : Nat} {st : St} {T : List (Int × Int)} {k : Nat} {vs : List Value} (h : Was w B st T k vs) (hg : Below w.heap.size w w') : Was w' B st T k vs :=
  ⟨h.1, fun j hj => by obtain ⟨p, u, h1, h2, h3⟩ := h.2 j hj; exact ⟨p, u, h1, h2, owns_fresh h3 hg⟩⟩
def WasI (wl : World) (st : St) (T : List (Int × Int)) (left : Nat) (t15 t16 : Value) (wr : World) : Prop :=
  ∃ k vs, left + k = T.length ∧ t16 = .int .i64 k ∧ Was wr wl.heap.size st T k vs ∧ wr.ownsRow wl.heap.size 26 1 t15 k vs ∧ Below wl.heap.size wl wr

theorem keep_other {w w' : World} {B B' : Nat} {e e' : TypeId} {s s' : Nat} {v u : Value} {n m : Nat} {xs ys : List Value} {o : Obj} (h : w.ownsRow B e s v n xs) (hu : w.ownsRow B' e' s' u m ys) (hne : e ≠ e') (hg : (w.alloc o).grownBy w' u.ownBlock) : w'.ownsRow B e s v n xs := by
  refine ⟨h.1, ?_⟩
  rcases h.2 with h1 | ⟨gg, cap, cur, rfl, h0, hg', h1⟩
  · exact .inl h1
  · refine .inr ⟨gg, cap, cur, rfl, h0, ?_, h1⟩
    have hlt := lt_of hg'
    rw [hg.block gg (by simp; omega) (fun e2 => ?_), Below.heap_alloc _ _ _ hlt, hg']
    rcases hu.2 with ⟨e3, _⟩ | ⟨g2, cap2, cur2, e3, _, hg2, _⟩
    · rw [e3] at e2; cases e2
    · rw [e3] at e2
      simp [Value.ownBlock] at e2
      subst e2
      rw [hg'] at hg2
      simp at hg2
      exact hne hg2.2
theorem Was.step {w w' : World} {B : Nat} {st : St} {T : List (Int × Int)} {k : Nat} {vs : List Value} {t u : Value} {p : Int × Int} {o : Obj} {B' : Nat} (h : Was w B st T k vs) (hr : w.ownsRow B 26 1 t k vs) (hg : (w.alloc o).grownBy w' t.ownBlock) (hp : T[k]? = some p) (hB : B ≤ B')
    (hu : w.ownsRow B' 3 1 u (pathOf p.1 (upsOf st p.1 p.2)).length (ints (pathOf p.1 (upsOf st p.1 p.2)))) : Was w' B st T (k + 1) (vs ++ [u]) := by
  refine ⟨by simp [h.1], fun j hj => ?_⟩
  by_cases hjk : j < k
  · obtain ⟨q, v, h1, h2, h3⟩ := h.2 j hjk
    exact ⟨q, v, h1, by rw [List.getElem?_append_left (by rw [h.1]; exact hjk)]; exact h2, keep_other h3 hr (by decide) hg⟩
  · obtain rfl : j = k := by omega
    exact ⟨p, u, hp, by rw [List.getElem?_append_right (by rw [h.1]; exact Nat.le_refl _)]; simp [h.1], own_base (keep_other hu hr (by decide) hg) hB⟩

def BackI (w1 w4 wr wa : World) (st : St) (T : List (Int × Int)) (left : Nat) (t22 : Value) (wx : World) : Prop := ∃ k : Nat, left + k = T.length ∧ t22 = .int .i64 k ∧ Below wa.heap.size wa wx
theorem own_cells {w : World} {B : Nat} {e : TypeId} {s g n c m : Nat} {xs : List Value} (h : w.ownsRow B e s (.slice (some ⟨g, 0, none⟩) n c) m xs) : ∃ cur, w.heap[g]? = some (.cells cur e (0, 0)) := by
  rcases h.2 with ⟨e, _⟩ | ⟨g', cap', cur, e, _, hg, _⟩
  · cases e
  · cases e; exact ⟨cur, hg⟩
theorem pathOf_len (i : Int) (l : List (Int × Int)) : (pathOf i l).length = l.length := by simp [pathOf, upIdx_length]
/-- What is held beside the tree while a group is moved. -/
def OM (w1 w4 wm : World) (g B0 B1 B2 gl : Nat) : Nat → Prop := fun k => With (With (With (With (With (· < w1.heap.size) g) B0) B1) B2) gl k ∨ (w4.heap.size ≤ k ∧ k < wm.heap.size)
structure Kept (w1 w4 : World) (st : St) (T L : List (Int × Int)) (vs : List Value) (g cp gl cl : Nat) (tw : Value) (B0 B1 B2 : Nat) (x x' y y' c c' : Int) (W : World) : Prop where
  row : W.ownsRow w1.heap.size 34 2 (.slice (some ⟨g, 0, none⟩) T.length cp) T.length (cellsH T)
  was : W.ownsRow w4.heap.size 26 1 tw T.length vs
  paths : Was W w4.heap.size st T T.length vs
  b0 : W.heap[B0]? = some (.cells #[.int .i64 x, .int .i64 x'] 34 (0, 0))
  b1 : W.heap[B1]? = some (.cells #[.int .i64 y, .int .i64 y'] 34 (0, 0))
  b2 : W.heap[B2]? = some (.cells #[.int .i64 c, .int .i64 c'] 34 (0, 0))
  lrow : W.ownsRow w1.heap.size 34 2 (.slice (some ⟨gl, 0, none⟩) L.length cl) L.length (cellsH L)
section
variable {w1 w4 : World} {st : St} {T L : List (Int × Int)} {vs : List Value} {g cp gl cl : Nat} {tw : Value} {B0 B1 B2 : Nat} {x x' y y' c c' : Int} {W W' : World}
theorem Kept.fresh (h : Kept w1 w4 st T L vs g cp gl cl tw B0 B1 B2 x x' y y' c c' W) (hg : Below W.heap.size W W') : Kept w1 w4 st T L vs g cp gl cl tw B0 B1 B2 x x' y y' c c' W' :=
  ⟨owns_fresh h.row hg, owns_fresh h.was hg, h.paths.fresh hg, heap_fresh h.b0 hg, heap_fresh h.b1 hg, heap_fresh h.b2 hg, owns_fresh h.lrow hg⟩
theorem Kept.same {wm : World} (h0 : Kept w1 w4 st T L vs g cp gl cl tw B0 B1 B2 x x' y y' c c' wm) (h : Kept w1 w4 st T L vs g cp gl cl tw B0 B1 B2 x x' y y' c c' W) (hs : Same (OM w1 w4 wm g B0 B1 B2 gl) W W') : Kept w1 w4 st T L vs g cp gl cl tw B0 B1 B2 x x' y y' c c' W' := by
  refine ⟨own_on h.row fun k hk => hs.block k (.inl ?_), own_on h.was fun k hk => hs.block k (.inr ⟨(h0.was.lt k hk).1, (h0.was.lt k hk).2⟩), ⟨h.paths.1, fun j hj => ?_⟩, (hs.block _ (.inl ?_)).trans h.b0, (hs.block _ (.inl ?_)).trans h.b1, (hs.block _ (.inl ?_)).trans h.b2, own_on h.lrow fun k hk => hs.block k (.inl ?_)⟩
  · simp [Value.ownBlock] at hk; subst hk; exact .inl (.inl (.inl (.inl (.inr rfl))))
  · obtain ⟨p, u, h1, h2, h3⟩ := h.paths.2 j hj
    obtain ⟨p', u', h1', h2', h3'⟩ := h0.paths.2 j hj
    rw [h1] at h1'; cases h1'
    rw [h2] at h2'; cases h2'
    exact ⟨p, u, h1, h2, own_on h3 fun k hk => hs.block k (.inr ⟨(h3'.lt k hk).1, (h3'.lt k hk).2⟩)⟩
  · exact .inl (.inl (.inl (.inr rfl)))
  · exact .inl (.inl (.inr rfl))
  · exact .inl (.inr rfl)
  · simp [Value.ownBlock] at hk; subst hk; exact .inr rfl
theorem Kept.lt {wm : World} (h0 : Kept w1 w4 st T L vs g cp gl cl tw B0 B1 B2 x x' y y' c c' wm) (hb : w1.heap.size ≤ wm.heap.size) (hg : wm.heap.size ≤ W.heap.size) : ∀ k, OM w1 w4 wm g B0 B1 B2 gl k → k < W.heap.size := by
  intro k hk
  refine Nat.lt_of_lt_of_le ?_ hg
  rcases hk with (((((hk | rfl) | rfl) | rfl) | rfl) | rfl) | hk
  · exact Nat.lt_of_lt_of_le hk hb
  · exact (h0.row.lt _ rfl).2
  · exact lt_of h0.b0
  · exact lt_of h0.b1
  · exact lt_of h0.b2
  · exact (h0.lrow.lt _ rfl).2
  · exact hk.2
end

set_option maxHeartbeats 8000000 in
set_option maxRecDepth 100000 in
theorem moves_as (v : Option Addr) (len cap : Nat) (z : Nat → Int) (y0 y1 : Int) (w : World) (hlen : len ≤ 9223372036854775807) (hz : ∀ j, 0 ≤ z j ∧ z j ≤ 255)
    (hc : ∀ j, j < len → ∃ k off, v = some ⟨k, off, none⟩ ∧ k < w.heap.size ∧ w.cell? ⟨k, off + j, none⟩ = some (.int .u8 (z j))) (k0 : 0 ≤ y0 ∧ y0 ≤ 255) (k1 : 0 ≤ y1 ∧ y1 ≤ 255) :
    Calls Try.prog 5 #[.slice v len cap, .int .u8 y0, .int .u8 y1] w (Yes w) := by
  replace hc := Lib.hid hc
  replace hz := Lib.hid hz
  obtain ⟨i0, hi, hz0, hz1, hz2⟩ := info_parts infoS
  go_enter Try.func5, Try.ntmps5
  go_wp2_with fail
  go_at_call 9; refine (awake _).mono ?_; rintro e w1 ⟨rfl, hg⟩
  go_wp2_with fail
  go_at_call 23
  refine (grown_tree v len cap z w1 hlen hz.out (fun j hj => ?_)).mono ?_
  · obtain ⟨k, off, e1, e2, e3⟩ := hc.out j hj
    exact ⟨k, off, e1, Nat.lt_of_lt_of_le e2 hg.size, (hg.cell e2).trans e3⟩
  rintro e w2 ⟨tb, b, st, T, tv, rfl, hT, hTl⟩
  clear hc hz
  obtain ⟨j0, p0, e0, l0, hp0⟩ := pick hT.pos k0.1
  obtain ⟨j1, p1, e1, l1, hp1⟩ := pick hT.pos k1.1
  obtain ⟨g, cp, rfl, t0, t0', n0, -⟩ := hT.at hp0
  obtain ⟨g', cp', e', t1, t1', n1, -⟩ := hT.at hp1
  cases e'
  have hTp : (0 : Int) < T.length := by have := hT.pos; omega
  have hTq : (T.length : Int) ≤ 41 := by omega
  have hgT := Lib.hid (hg.trans (hT.below.mono hg.size))
  have HW1 := Lib.hid hg.size
  clear hp0 hp1 hg
  obtain ⟨x, x'⟩ := p0
  obtain ⟨y, y'⟩ := p1
  simp only at *
  go_upto_region 6 with fail
  have b0 := heap_alloc_new w2 (.cells #[.int .i64 x, .int .i64 x'] 34)
  replace hT := hT.fresh (alloc1 w2 (.cells #[.int .i64 x, .int .i64 x'] 34))
  replace hgT := Lib.hid (hgT.out.alloc hgT.out.size (.cells #[.int .i64 x, .int .i64 x'] 34))
  replace t1 := cell_alloc t1 (.cells #[.int .i64 x, .int .i64 x'] 34)
  replace t1' := cell_alloc t1' (.cells #[.int .i64 x, .int .i64 x'] 34)
  clear t0 t0'
  generalize w2.alloc (.cells #[.int .i64 x, .int .i64 x'] 34) = W0 at *
  generalize w2.heap.size = B0 at *
  go_upto_region 7 with fail
  have b1 := heap_alloc_new W0 (.cells #[.int .i64 y, .int .i64 y'] 34)
  replace b0 := heap_fresh b0 (alloc1 W0 (.cells #[.int .i64 y, .int .i64 y'] 34))
  replace hT := hT.fresh (alloc1 W0 (.cells #[.int .i64 y, .int .i64 y'] 34))
  replace hgT := Lib.hid (hgT.out.alloc hgT.out.size (.cells #[.int .i64 y, .int .i64 y'] 34))
  clear t1 t1'
  generalize W0.alloc (.cells #[.int .i64 y, .int .i64 y'] 34) = W1 at *
  generalize W0.heap.size = B1 at *
  have PA := Lib.hid (parent_any W1 tb b (· < w1.heap.size) st x x' hT.tree hT.inv.l1 n0)
  have d := box2 b0
  obtain ⟨d0, d0', dz⟩ := d
  generalize hpi : parI st x x' = c at *
  generalize hpg : parG st x x' = c' at *
  generalize hpn : parN x x' = pn at *
  go_wp2_with fail
  go_at_call 26; refine PA.out.mono ?_; rintro e w3 ⟨rfl, hg3⟩
  have b2 := heap_alloc_new w3 (.cells #[.int .i64 c, .int .i64 c'] 34)
  have hg4 := hg3.alloc hg3.size (.cells #[.int .i64 c, .int .i64 c'] 34)
  replace hT := hT.fresh hg4
  replace b0 := heap_fresh b0 hg4
  replace b1 := heap_fresh b1 hg4
  replace hgT := Lib.hid (hgT.out.trans (hg4.mono hgT.out.size))
  clear PA d0 d0' dz hg3 hg4
  obtain ⟨d0, d0', dz⟩ := box2 b0
  go_upto_region 8 with fail
  generalize w3.alloc (.cells #[.int .i64 c, .int .i64 c'] 34) = W2 at *
  generalize w3.heap.size = B2 at *
  have BE := Lib.hid (below W2 tb b (· < w1.heap.size) st x x' hT.tree hT.inv.l1 hT.ok)
  have HW2 := Lib.hid hT.below.size
  replace BE : Hid (Calls Try.prog 27 #[.pointer (some ⟨tb, 0, none⟩), .agg #[.int .i64 x, .int .i64 x']] W2 (IsAll (belowOf st x x') W2)) := BE
  have hLm : (x, x') ∈ belowOf st x x' := below_mem n0 n0 (isIn_self _ _ _)
  have hLl : (belowOf st x x').length ≤ 4096 := Nat.le_trans (List.length_filter_le _ _) (Nat.le_trans (hs_le _ _) hT.inv.l1)
  go_wp2_with fail
  go_at_call 27; refine BE.out.mono ?_; rintro e w4 ⟨lv, rfl, hL, hg4⟩
  replace hT := hT.fresh hg4
  replace b0 := heap_fresh b0 hg4
  replace b1 := heap_fresh b1 hg4
  replace b2 := heap_fresh b2 hg4
  have hgW := Lib.hid (hgT.out.trans (hg4.mono hgT.out.size))
  clear BE hg4 hgT d0 d0' dz
  go_wp2_with fail
  go_loopg [15, 16] T.length (fun left t15 t16 wr => WasI w4 st T left t15 t16 wr)
  case atStart => exact ⟨0, [], by omega, rfl, ⟨rfl, fun j hj => by omega⟩, World.ownsRow_nil _ _ _ _, Below.refl _ _⟩
  case round =>
    obtain ⟨k, vs, hk, rfl, hW, hown, hb⟩ := hrel
    by_cases hlt : k < T.length
    · have q1 : (k : Int) < T.length := by omega
      obtain ⟨p, hp⟩ : ∃ p, T[k]? = some p := ⟨_, List.getElem?_eq_getElem hlt⟩
      have hT' := hT.fresh hb
      obtain ⟨g', cp', e', t0, t1, hn, -⟩ := hT'.at hp
      cases e'
      obtain ⟨hu, hl⟩ := hT'.ok.ups hn
      have PA := Lib.hid (path_some wr tb b _ st p.1 p.2 _ hT'.tree hT'.inv.l1 hu (by omega))
      have F : Hid (∀ (u : Value) (w5 : World), w5.ownsRow wr.heap.size 3 1 u (pathOf p.1 (upsOf st p.1 p.2)).length (ints (pathOf p.1 (upsOf st p.1 p.2))) → Below wr.heap.size wr w5 → ∀ (o : Obj) (v' : Value) (w6 : World), (w5.alloc o).grownBy w6 u15.ownBlock → w6.ownsRow w4.heap.size 26 1 v' (k + 1) (vs ++ [u]) → WasI w4 st T (gk - 1) v' (.int .i64 ((k : Int) + 1)) w6) := by
        intro u w5 hu5 hg5 o v' w6 hgrow h6
        have hr5 := owns_fresh hown hg5
        have hb5 := hb.trans (hg5.mono hb.size)
        exact ⟨k + 1, _, by omega, by go_num, (hW.fresh hg5).step hr5 hgrow hp hb.size hu5, h6, (hb5.alloc hb5.size o).grown hgrow (by simp; have := hb5.size; omega) (fun j hj => (hr5.lt j hj).1)⟩
      have hown' := Lib.hid hown
      have hvl : vs.length = k := hW.1
      have hTl' := hTl
      have hbz := hb.size
      have HB := Lib.hid hb
      generalize pathOf p.1 (upsOf st p.1 p.2) = P at *
      obtain ⟨px, py⟩ := p
      simp only at *
      clear hT hT' hL hW hown hb hp hn hu hl b0 b1 b2
      go_wp2_with fail
      go_at_call 24; refine PA.out.mono ?_; rintro e w5 ⟨v2, rfl, ho, hg5⟩
      have F5 := Lib.hid (F.out v2 w5 ho hg5)
      have hrow := owns_fresh hown'.out hg5
      have hz5 := hg5.size
      obtain ⟨ao, c2, rfl⟩ := own_slice ho
      clear F PA ho
      go_wp2_with (at_builtin; refine wpList_append_own _ rfl (.tmp 73) (.tmp 75) 63 rfl w4.heap.size 26 i0 _ 1 24 Try.underlying63 hi hz0 hz1 hz2 rfl (by decide) _ _ _ rfl (hrow.alloc _) ⟨w5.heap.size, 0, none⟩ 1 1 [.slice ao P.length c2] rfl rfl (World.news_of_block (heap_alloc_new w5 _)) (by simp [Value.oneCell']) (by simp only [maxLen]; omega) (by omega) (by simp; omega) ?_; intro v' w6 hown6 hgrow6 _)
      go_roundg (gk - 1)
      case measure => omega
      case rel => exact F5.out _ _ _ hgrow6 hown6
    · have q1 : ¬ (k : Int) < T.length := by omega
      obtain rfl : k = T.length := by omega
      obtain ⟨gl, cl, rfl, -⟩ := hL.form (List.length_pos_of_mem hLm)
      obtain ⟨aw, cw, rfl⟩ := own_slice hown
      have hW1 := hT.below.size
      have hLrow := own_base (B' := w1.heap.size) hL HW2.out
      have K0 : Kept w1 w4 st T (belowOf st x x') vs g cp gl cl (.slice aw T.length cw) B0 B1 B2 x x' y y' c c' wr := ⟨owns_fresh hT.row hb, hown, hW, heap_fresh b0 hb, heap_fresh b1 hb, heap_fresh b2 hb, owns_fresh hLrow hb⟩
      obtain ⟨cur, hcur⟩ := own_cells hT.row
      obtain ⟨curl, hcurl⟩ := own_cells hL
      have TR : Tre wr tb b (OM w1 w4 wr g B0 B1 B2 gl) st := ((((((hT.tree.guard hcur).guard b0).guard b1).guard b2).guard hcurl).other (fun k hk => hk.elim .inl (fun h => .inr h.1))).fresh hb
      have LT := Lib.hid (K0.lt (W := wr) (by have := hb.size; omega) (Nat.le_refl _))
      have MV := Lib.hid (move_any wr tb b _ st x x' y y' TR hT.inv.l1 hT.ok n0 n1 LT.out)
      have hgm := Lib.hid (hgW.out.trans (hb.mono hgW.out.size))
      have hok := hT.ok
      have NM := Lib.hid hT.named
      have hinv := hT.inv.l1
      have hw1 : w.heap.size ≤ w1.heap.size := HW1.out
      obtain ⟨d0, d0', dz⟩ := box2 K0.b0
      obtain ⟨d1, d1', dz1⟩ := box2 K0.b1
      replace K0 := Lib.hid K0
      clear TR hT hL hLrow hW hown b0 b1 b2 hcur hcurl
      go_wp2_with fail
      go_at_call 17; refine MV.out.mono ?_; rintro e w5 ⟨n, st', rfl, ht5, hs5, hcs⟩
      have hg5 : Below w.heap.size w w5 := hgm.out.trans (hs5.mono (O' := (· < w.heap.size)) (fun k (hk : k < w.heap.size) => .inl (.inl (.inl (.inl (.inl (.inl (Nat.lt_of_lt_of_le hk hw1)))))))).below
      rcases hcs with ⟨rfl, hr⟩ | ⟨rfl, hr⟩ | ⟨rfl, hr⟩ | ⟨rfl, hr, rfl, hin, hd⟩
      · have hpn' : pn = 12 := by rw [← hpn, parN, if_pos hr]
        subst hpn'
        clear ht5 hs5 MV
        go_wp2_with fail
        go_ret
        exact ⟨rfl, hg5⟩
      · have hpn' : pn = 0 := by rw [← hpn, parN, hr]; rfl
        subst hpn'
        clear ht5 hs5 MV
        go_wp2_with fail
        go_ret
        exact ⟨rfl, hg5⟩
      · have hpn' : pn = 0 := by rw [← hpn, parN, hr]; rfl
        subst hpn'
        clear ht5 hs5 MV
        go_wp2_with fail
        go_ret
        exact ⟨rfl, hg5⟩
      · have hpn' : pn = 0 := by rw [← hpn, parN, hr]; rfl
        subst hpn'
        have hm := moved n0 y y'
        have ok' := hm.ok hok n0 hr n1 hin hd
        have hbel := hm.below hok ok' n0 hr n1 hin
        obtain ⟨bk1, bk2, bk3⟩ := hm.back hok ok' n0 hr n1 hin
        have sb := set_back n0 y y'
        have ec : c = st.thing x x' := by rw [← hpi, parI, hr]; rfl
        have ec' : c' = st.tgen x x' := by rw [← hpg, parG, hr]; rfl
        rw [← ec, ← ec'] at bk1 bk2 bk3 sb
        have n0' : (st.set x x' y y').names x x' = true := (hm.names x x').trans n0
        have l1' : (st.set x x' y y').pl.length ≤ 4096 := by rw [hm.len]; exact hinv
        have K5 := K0.out.same K0.out hs5
        have PA : Hid (∀ w', Tre w' tb b (OM w1 w4 wr g B0 B1 B2 gl) (st.set x x' y y') → Calls Try.prog 26 #[.pointer (some ⟨tb, 0, none⟩), .agg #[.int .i64 x, .int .i64 x']] w' (IsTwo y y' 0 w')) := fun w' ht => by
          have := parent_some w' tb b _ _ x x' ht l1' n0' hr
          rwa [hm.at'.1, hm.at'.2] at this
        have BE : Hid (∀ w', Tre w' tb b (OM w1 w4 wr g B0 B1 B2 gl) (st.set x x' y y') → Calls Try.prog 27 #[.pointer (some ⟨tb, 0, none⟩), .agg #[.int .i64 x, .int .i64 x']] w' (IsAll (belowOf st x x') w')) := fun w' ht => by
          have : Calls Try.prog 27 #[.pointer (some ⟨tb, 0, none⟩), .agg #[.int .i64 x, .int .i64 x']] w' (IsAll (belowOf (st.set x x' y y') x x') w') := below w' tb b _ _ x x' ht l1' ok'
          rwa [hbel] at this
        have MB : Hid (∀ w', Tre w' tb b (OM w1 w4 wr g B0 B1 B2 gl) (st.set x x' y y') → wr.heap.size ≤ w'.heap.size → Calls Try.prog 17 #[.pointer (some ⟨tb, 0, none⟩), .agg #[.int .i64 x, .int .i64 x'], .agg #[.int .i64 c, .int .i64 c']] w' (Did (.int .i64 0) st tb b (OM w1 w4 wr g B0 B1 B2 gl) w')) := fun w' ht hz => by
          have r := reach_bd (st := st.set x x' y y') (i := x) (g := x') ok'
          have := move_some w' tb b _ _ x x' c c' ht l1' ok' n0' hr bk1 bk2 r.1 (by omega) bk3 (fun k hk => Nat.lt_of_lt_of_le (LT.out k hk) hz)
          rwa [sb] at this
        have HZ := Lib.hid hs5.size
        clear ec ec' hpi hpg hpn hm ok' hbel bk1 bk2 bk3 sb n0' l1' MV hin hd hs5 d0 d0' dz d1 d1' dz1
        generalize st.set x x' y y' = st2 at *
        have hz5 := hg5.size
        obtain ⟨d0, d0', dz⟩ := box2 K5.b0
        go_wp2_with fail
        go_at_call 26; refine (PA.out _ ht5).mono ?_; rintro e w6 ⟨rfl, hg6⟩
        have hq := heap_alloc_new w6 (.cells #[.int .i64 y, .int .i64 y'] 34)
        have hg7 := hg6.alloc hg6.size (.cells #[.int .i64 y, .int .i64 y'] 34)
        have K7 := K5.fresh hg7
        have ht7 := ht5.fresh hg7
        have hg8 := hg5.trans (hg7.mono hg5.size)
        have HZ7 := Lib.hid (Nat.le_trans HZ.out hg7.size)
        clear d0 d0' dz hg6 hg7 K5 ht5 hg5 PA
        obtain ⟨d0, d0', dz⟩ := box2 K7.b0
        obtain ⟨d1, d1', dz1⟩ := box2 K7.b1
        obtain ⟨d2, d2', dz2⟩ := box2 K7.b2
        obtain ⟨dq, dq', dzq⟩ := box2 hq
        go_upto_region 19 with fail
        generalize w6.alloc (.cells #[.int .i64 y, .int .i64 y'] 34) = W7 at *
        generalize w6.heap.size = Bq at *
        go_wp2_with fail
        go_at_call 27; refine (BE.out _ ht7).mono ?_; rintro e w8 ⟨lv8, rfl, hL8, hg9⟩
        have K8 := K7.fresh hg9
        have ht8 := ht7.fresh hg9
        have hg10 := hg8.trans (hg9.mono hg8.size)
        have HZ8 := Lib.hid (Nat.le_trans HZ7.out hg9.size)
        have SM := Lib.hid (hands_same w8 _ _ lv8 _ _ hL8 K8.lrow hLl)
        obtain ⟨al8, cl8, rfl⟩ := own_slice hL8
        clear hL8 hg8 hg9 K7 ht7 d0 d0' dz d1 d1' dz1 d2 d2' dz2 dq dq' dzq
        go_wp2_with fail
        go_at_call 20; refine SM.out.mono ?_; rintro e w9 ⟨rfl, hg11⟩
        have K9 := K8.fresh hg11
        have ht9 := ht8.fresh hg11
        have hg12 := hg10.trans (hg11.mono hg10.size)
        have HZ9 := Lib.hid (Nat.le_trans HZ8.out hg11.size)
        clear hg10 hg11 K8 ht8 SM
        obtain ⟨d0, d0', dz⟩ := box2 K9.b0
        obtain ⟨d2, d2', dz2⟩ := box2 K9.b2
        go_wp2_with fail
        go_at_call 17; refine (MB.out _ ht9 HZ9.out).mono ?_; rintro e wa ⟨rfl, hta, hsa⟩
        have Ka := K0.out.same K9 hsa
        have hga : Below w.heap.size w wa := hg12.trans (hsa.mono (O' := (· < w.heap.size)) (fun k (hk : k < w.heap.size) => .inl (.inl (.inl (.inl (.inl (.inl (Nat.lt_of_lt_of_le hk hw1)))))))).below
        clear hg12 K9 ht9 hsa MB BE d0 d0' dz d2 d2' dz2
        have KA := Lib.hid Ka
        have HTA := Lib.hid hta
        have HGA := Lib.hid hga
        clear Ka hta hga K0 hgm hgW hb
        go_wp2_with fail
        go_loopg [22] T.length (fun left t22 wx => BackI w1 w4 wr wa st T left t22 wx)
        case atStart => exact ⟨0, by omega, rfl, Below.refl _ _⟩
        case round =>
          obtain ⟨m, hm, rfl, hbx⟩ := hrel
          by_cases hlm : m < T.length
          · have q2 : (m : Int) < T.length := by omega
            have Kx := KA.out.fresh hbx
            have htx := HTA.out.fresh hbx
            obtain ⟨p, u, h1, h2, h3⟩ := Kx.paths.2 m hlm
            obtain ⟨r0, r1⟩ := cellsH_at' h1
            have t0 := Kx.row.cellAt (m * 2) (by omega)
            have t0' := Kx.row.cellAt (m * 2 + 1) (by omega)
            rw [r0] at t0
            rw [r1] at t0'
            obtain ⟨gw, cw', ew, -⟩ := Kx.was.form (by omega)
            cases ew
            have tw := Kx.was.cellAt m (by omega)
            rw [h2] at tw
            have hn : st.names p.1 p.2 = true := NM.out p (List.mem_of_getElem? h1)
            obtain ⟨hu, hl⟩ := hok.ups hn
            have hpl : (pathOf p.1 (upsOf st p.1 p.2)).length ≤ 1000 := by rw [pathOf_len]; omega
            have PA := Lib.hid (path_some wr tb b _ st p.1 p.2 _ htx hinv hu (by omega))
            generalize pathOf p.1 (upsOf st p.1 p.2) = P at *
            obtain ⟨px, py⟩ := p
            simp only at *
            obtain ⟨au, cu, rfl⟩ := own_slice h3
            have H3 := Lib.hid h3
            clear h1 h2 h3 r0 r1 hn hu hl Kx htx
            go_wp2_with fail
            go_at_call 24; refine PA.out.mono ?_; rintro e wy ⟨v2, rfl, ho, hgy⟩
            replace tw := cell_fresh tw hgy
            have SI := Lib.hid (ints_same wy _ _ v2 _ P ho (owns_fresh H3.out hgy) hpl)
            obtain ⟨ay, cy, rfl⟩ := own_slice ho
            clear PA ho t0 t0'
            go_wp2_with fail
            go_at_call 28; refine SI.out.mono ?_; rintro e wz ⟨rfl, hgz⟩
            go_wp2_with fail
            go_roundg (T.length - (m + 1))
            case measure => omega
            case rel => exact ⟨m + 1, by omega, by go_num, (hbx.trans (hgy.mono hbx.size)).trans (hgz.mono (Nat.le_trans hbx.size hgy.size))⟩
          · have q2 : ¬ (m : Int) < T.length := by omega
            go_wp2_with fail
            go_ret
            exact ⟨rfl, HGA.out.trans (hbx.mono HGA.out.size)⟩
theorem movesLaw (v : Option Addr) (len cap : Nat) (zs : List Int) (y0 y1 : Int) (w : World) (hlen : len ≤ 9223372036854775807) (hz : ∀ n ∈ zs, (Lit.int .u8 n).wf = true)
    (hc : ∀ j, j < len → ∃ k off, v = some ⟨k, off, none⟩ ∧ k < w.heap.size ∧ w.cell? ⟨k, off + j, none⟩ = some (.int .u8 (zs[j]?.getD 0))) (k0 : 0 ≤ y0 ∧ y0 ≤ 255) (k1 : 0 ≤ y1 ∧ y1 ≤ 255) :
    Calls Try.prog 5 #[.slice v len cap, .int .u8 y0, .int .u8 y1] w (Yes w) := by
  refine moves_as v len cap (fun j => zs[j]?.getD 0) y0 y1 w hlen (fun j => ?_) hc k0 k1
  by_cases hj : j < zs.length
  · have := bounds_u8 (hz _ (List.getElem_mem hj))
    simp only [List.getElem?_eq_getElem hj, Option.getD_some]; exact this
  · rw [List.getElem?_eq_none (by omega)]; simp
end Go.Proofs.Ytcfdpbidhanldaa.Gt
