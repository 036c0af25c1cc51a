/- What Path of package gtree answers. Conditions: none. -/
import Derived.Test.YtanahddlnchioaaGtRev
import Derived.Deep.DeepCutAuto
import Derived.Deep.Cut
namespace Go.Proofs.Ytanahddlnchioaa.Gt
open Go.ChangeShapes Go.WideShapes Go.ChangeAt Go.RowKit Hp
set_option linter.unusedVariables false
set_option linter.unusedSimpArgs false

/-- The places on the way up, without the root's. -/
def upIdx (i : Int) : List (Int × Int) → List Int
  | [] => []
  | p :: l => i :: upIdx p.1 l
theorem upIdx_length (i : Int) (l : List (Int × Int)) : (upIdx i l).length = l.length := by
  induction l generalizing i with
  | nil => rfl
  | cons p l ih => simp [upIdx, ih]
def pathOf (i : Int) (l : List (Int × Int)) : List Int := (upIdx i l).reverse
/-- A slice of integers, in memory of its own, and an error's number. -/
def IsPath (l : List Int) (n : Int) (w : World) (e : Ending) (w' : World) : Prop := ∃ v, e = .returned (.tuple #[v, .int .i64 n]) ∧ w'.ownsRow w.heap.size 3 1 v l.length (ints l) ∧ Below w.heap.size w w'

theorem own_apart {w : World} {B : Nat} {e : TypeId} {size : Nat} {v : Value} {n : Nat} {xs : List Value} (h : w.ownsRow B e size v n xs) {k : Nat} {cur : Array Value} {e' : TypeId} {q : Nat × Nat} (hk : w.heap[k]? = some (.cells cur e' q)) (hne : e ≠ e') : ∀ j, v.ownBlock = some j → j ≠ k := by
  rintro j hj rfl
  rcases h.2 with ⟨rfl, _⟩ | ⟨g, cap, cur, rfl, h0, hg, h1⟩
  · cases hj
  · simp [Value.ownBlock] at hj
    subst hj
    rw [hg] at hk
    simp at hk
    exact hne hk.2.1
theorem own_on {w w' : World} {B : Nat} {e : TypeId} {size : Nat} {v : Value} {n : Nat} {xs : List Value} (h : w.ownsRow B e size v n xs) (hb : ∀ k, v.ownBlock = some k → w'.heap[k]? = w.heap[k]?) : w'.ownsRow B e size v n xs := by
  refine ⟨h.1, ?_⟩
  rcases h.2 with h1 | ⟨g, cap, cur, rfl, h0, hg, h1⟩
  · exact .inl h1
  · exact .inr ⟨g, cap, cur, rfl, h0, by rw [hb g rfl, hg], h1⟩
theorem own_lt {w : World} {B : Nat} {e : TypeId} {size : Nat} {v : Value} {n : Nat} {xs : List Value} (h : w.ownsRow B e size v n xs) {k : Nat} (hk : v.ownBlock = some k) : B ≤ k ∧ k < w.heap.size := h.lt k hk
theorem own_but {w w' : World} {a B : Nat} {e : TypeId} {size : Nat} {v : Value} {n : Nat} {xs : List Value} (h : w.ownsRow B e size v n xs) (hb : But a w w') (ha : ∀ j, v.ownBlock = some j → j ≠ a) : w'.ownsRow B e size v n xs :=
  own_on h fun k hk => hb.block k (own_lt h hk).2 (ha k hk)
theorem grow_heap {w w' : World} {v : Value} (hg : w.grownBy w' v.ownBlock) {k : Nat} {o : Obj} (hk : w.heap[k]? = some o) (hne : ∀ j, v.ownBlock = some j → j ≠ k) : w'.heap[k]? = some o := by
  rw [hg.block k (lt_of hk) (fun e => hne k e.symm rfl), hk]

theorem path_nil (w : World) (i g : Int) : Calls Try.prog 18 #[.pointer none, .agg #[.int .i64 i, .int .i64 g]] w (IsPath [] 2 w) := by
  go_enter Try.func18, Try.ntmps18
  go_wp2_with (go_at_call 27; refine (names_nil _ _ _).mono ?_; rintro e w1 ⟨rfl, hg1⟩; have hg := fresh_trans (alloc1 _ _) hg1; clear hg1)
  go_ret2
  exact ⟨_, rfl, World.ownsRow_nil _ _ _ _, hg⟩
theorem path_none (w : World) (tb b : Nat) (O : Nat → Prop) (st : St) (i g : Int) (h : Tre w tb b O st) (h1 : st.pl.length ≤ 4096) (hn : st.names i g = false) :
    Calls Try.prog 18 #[.pointer (some ⟨tb, 0, none⟩), .agg #[.int .i64 i, .int .i64 g]] w (IsPath [] 2 w) := by
  have N : Hid _ := fun w h => names w tb b O st i g h h1
  rw [hn] at N
  clear hn
  go_enter Try.func18, Try.ntmps18
  go_wp2_with (go_at_call 27; refine (N.out _ (h.fresh (alloc1 _ _))).mono ?_; rintro e w1 ⟨rfl, hg1⟩; have hg := fresh_trans (alloc1 _ _) hg1; clear hg1)
  go_ret2
  exact ⟨_, rfl, World.ownsRow_nil _ _ _ _, hg⟩

/-- The boxes of the closure, above a size. -/
structure Bx (w : World) (s x a tb : Nat) (i g : Int) : Prop where
  tp : w.heap[x]? = some (.cells #[.pointer (some ⟨tb, 0, none⟩)] 24 (0, 0))
  pos : w.heap[a]? = some (.cells #[.int .i64 i, .int .i64 g] 34 (0, 0))
  ge : s ≤ a
theorem Bx.boxes {w0 w : World} {x a tb b : Nat} {O : Nat → Prop} {st : St} {i g : Int} (h : Bx w w0.heap.size x a tb i g) (ht : Tre w0 tb b O st) (hg : Below w0.heap.size w0 w) : Boxes w x a tb b (w0.heap.size ≤ ·) st i g :=
  ⟨(ht.other fun k hk => .inr hk).fresh hg, h.tp, h.pos, h.ge⟩
theorem Bx.fresh {w w' : World} {s x a tb : Nat} {i g : Int} (h : Bx w s x a tb i g) (hg : Below w.heap.size w w') : Bx w' s x a tb i g := ⟨heap_fresh h.tp hg, heap_fresh h.pos hg, h.ge⟩
def PathJ (w : World) (tb : Nat) (i g : Int) (t7 t8 : Value) (wc : World) : Prop :=
  ∃ x a B, t8 = .func (.func 56) #[] #[.pointer (some ⟨x, 0, none⟩), .pointer (some ⟨a, 0, none⟩)] ∧ t7 = .pointer (some ⟨B, 0, none⟩) ∧ Bx wc w.heap.size x a tb i g ∧ wc.heap[B]? = some (.cells #[.int .i64 i, .int .i64 g] 34 (0, 0)) ∧ B ≠ a ∧ w.heap.size ≤ B ∧ Below w.heap.size w wc
def PathI (w : World) (x a B tb : Nat) (st : St) (all : List Int) (left : Nat) (t6 t9 u : Value) (wr : World) : Prop :=
  ∃ (l : List (Int × Int)) (done : List Int) (cx cy i g : Int) (B9 : Nat), wr.ownsRow w.heap.size 3 1 t6 done.length (ints done) ∧ wr.heap[B]? = some (.cells #[.int .i64 cx, .int .i64 cy] 34 (0, 0)) ∧
    t9 = .pointer (some ⟨B9, 0, none⟩) ∧ wr.heap[B9]? = some (.cells #[.int .i64 (hd l).1, .int .i64 (hd l).2] 34 (0, 0)) ∧ B9 ≠ a ∧ B9 ≠ B ∧ w.heap.size ≤ B9 ∧ u = .bool (up l) ∧ Bx wr w.heap.size x a tb i g ∧ Ups st i g l.tail ∧
    Hid (done ++ upIdx cx l = all ∧ left = l.length) ∧ Below w.heap.size w wr

theorem reverse' (w : World) (v : Value) (B : Nat) (xs : List Int) (h : w.ownsRow B 3 1 v xs.length (ints xs)) (hn : xs.length ≤ 4096) : Calls Try.prog 46 #[v] w (IsRev B v xs w) := by
  cases xs with
  | nil => exact reverse_nil w v B h
  | cons x xs => exact reverse w v B (x :: xs) h hn (by simp)
theorem rev_below {w0 w w' : World} {v : Value} {e : TypeId} {n : Nat} {xs : List Value} (h : w.ownsRow w0.heap.size e 1 v n xs) (hb : ButOwn v w w') (hg : Below w0.heap.size w0 w) : Below w0.heap.size w0 w' :=
  ⟨hb.1.trans hg.os, hb.2.1.trans hg.tape, hb.2.2.1.trans hg.output, Nat.le_trans hg.size hb.2.2.2.1, fun k hk => by
    rw [hb.2.2.2.2 k (Nat.lt_of_lt_of_le hk hg.size) (fun e => by have := (own_lt h e).1; omega)]; exact hg.block k hk⟩
theorem pathJ1 {w w1 w2 : World} {tb : Nat} {i g : Int} {e : Ending} (hg : Below w.heap.size w w1) (h : Way (.pointer (some ⟨tb, 0, none⟩)) i g w1.drew e w2) :
    PathJ w tb i g (.pointer (some ⟨w2.heap.size, 0, none⟩)) (.func (.func 56) #[] #[.pointer (some ⟨w1.heap.size, 0, none⟩), .pointer (some ⟨w1.heap.size + 2, 0, none⟩)]) (w2.alloc (.cells #[.int .i64 i, .int .i64 g] 34)) := by
  obtain ⟨-, hW1, hW2, hg2, hz⟩ := h
  have hz' : w2.heap.size = w1.heap.size + 3 := hz
  have hs := hg.size
  have hg3 : Below w.heap.size w w2 := hg.drew.trans (hg2.mono hg.size)
  exact ⟨_, _, _, rfl, rfl, ⟨heap_fresh hW1 (alloc1 _ _), heap_fresh hW2 (alloc1 _ _), by omega⟩, heap_alloc_new _ _, by omega, by omega, hg3.alloc hg3.size _⟩
theorem pathJ2 {w w1 w2 : World} {tb : Nat} {i g : Int} {e : Ending} {x y : Int} (hg : Below w.heap.size w w1) (h : Way (.pointer (some ⟨tb, 0, none⟩)) i g (w1.alloc (.cells #[.int .i64 x, .int .i64 y] 34)).drew e w2) :
    PathJ w tb i g (.pointer (some ⟨w1.heap.size, 0, none⟩)) (.func (.func 56) #[] #[.pointer (some ⟨w1.heap.size + 1, 0, none⟩), .pointer (some ⟨w1.heap.size + 1 + 2, 0, none⟩)]) ((w2.setCell ⟨w1.heap.size, 0, none⟩ (.int .i64 i)).setCell ⟨w1.heap.size, 1, none⟩ (.int .i64 g)) := by
  obtain ⟨-, hW1, hW2, hg2, hz⟩ := h
  have hs := hg.size
  have hs2 : (w1.alloc (.cells #[.int .i64 x, .int .i64 y] 34)).drew.heap.size = w1.heap.size + 1 := by simp
  rw [hs2] at hW1 hW2 hz
  have hg3 : Below w.heap.size w w2 := (hg.alloc hg.size _).drew.trans (hg2.mono (by rw [hs2]; omega))
  have r : w2.heap[w1.heap.size]? = some (.cells #[.int .i64 x, .int .i64 y] 34 (0, 0)) := (hg2.block _ (by rw [hs2]; omega)).trans (heap_alloc_new w1 _)
  have hb := ((But.of (a := w1.heap.size) (Below.refl _ w2)).setCell (p := ⟨w1.heap.size, 0, none⟩) (.inl rfl) (.int .i64 i)).setCell (p := ⟨w1.heap.size, 1, none⟩) (.inl rfl) (.int .i64 g)
  exact ⟨_, _, _, rfl, rfl, ⟨hb.heap hW1 (by omega), hb.heap hW2 (by omega), by omega⟩, set_block (set_block r 0 _) 1 _, by omega, hs, hb.below hg3 hs⟩
set_option maxHeartbeats 4000000 in
theorem path_some (w : World) (tb b : Nat) (O : Nat → Prop) (st : St) (i g : Int) (l : List (Int × Int)) (h : Tre w tb b O st) (h1 : st.pl.length ≤ 4096) (hu : Ups st i g l) (hl : l.length ≤ 4096) :
    Calls Try.prog 18 #[.pointer (some ⟨tb, 0, none⟩), .agg #[.int .i64 i, .int .i64 g]] w (IsPath (pathOf i l) 0 w) := by
  have N : Hid _ := fun w h => names w tb b O st i g h h1
  rw [hu.named] at N
  go_enter Try.func18, Try.ntmps18
  go_upto_region 4 with (go_at_call 27; refine (N.out _ (h.fresh (alloc1 _ _))).mono ?_; rintro e w1 ⟨rfl, hg1⟩; obtain ⟨a0, a1⟩ := two hg1 rfl; have hg := fresh_trans (alloc1 _ _) hg1; clear hg1)
  clear N
  have c0 := cell_alloc a0
  have c1 := cell_alloc a1
  have hz1 := hg.size
  go_cut [7, 8] (fun t7 t8 wc => PathJ w tb i g t7 t8 wc)
  case first =>
    go_region_with (go_at_call 45; first
      | (refine (wayUp w1.drew _ _ _).mono ?_; intro e w2 hW; have J := Lib.hid (pathJ1 hg hW); obtain ⟨rfl, -, -, hg2, -⟩ := hW; have e0 := cell_fresh (w := w1.drew) a0 hg2; have e1 := cell_fresh (w := w1.drew) a1 hg2; have f0 := cell_alloc e0; have f1 := cell_alloc e1; clear hg2)
      | (refine (wayUp (w1.alloc _).drew _ _ _).mono ?_; intro e w2 hW; have J := Lib.hid (pathJ2 hg hW); obtain ⟨rfl, -, -, hg2, -⟩ := hW; have e0 := cell_fresh (w := (w1.alloc _).drew) (c0 _) hg2; have e1 := cell_fresh (w := (w1.alloc _).drew) (c1 _) hg2; obtain ⟨r0, r1, rz⟩ := box2 (heap_fresh (w := (w1.alloc _).drew) (heap_alloc_new w1 _) hg2); clear hg2))
    all_goals
      go_wp2_with fail
      go_meet
      case rel => exact J.out
  case rest =>
    clear hg a0 a1 c0 c1 hz1
    obtain ⟨x, a, B, rfl, rfl, hX, hbox, hBa, hBs, hg⟩ := hcut
    go_wp2_with (go_at_call 56; refine (next _ _ _ tb b _ st i g l (hX.boxes h hg) h1 hu).mono ?_; rintro e w2 ⟨rfl, hb2, i2, g2, hB2, hu2, -⟩)
    have hg2 := hb2.below hg hX.ge
    have la := lt_of hB2.pos
    have lB := lt_of hbox
    have hs2 := hg2.size
    have hz2 := hb2.size
    obtain ⟨i0, hi, hz0, hz1, hzz⟩ := info_parts infoI
    go_loopg [6, 9, 10] l.length (fun left t6 t9 u wr => PathI w x a B tb st (upIdx i l) left t6 t9 u wr)
    case atStart => exact ⟨l, [], i, g, i2, g2, _, World.ownsRow_nil _ _ _ _, heap_fresh (hb2.heap hbox hBa) (alloc1 _ _), rfl, heap_alloc_new _ _, by omega, by omega, by omega, rfl, ⟨heap_fresh hB2.tp (alloc1 _ _), heap_fresh hB2.pos (alloc1 _ _), hX.ge⟩, hu2, ⟨rfl, rfl⟩, hg2.alloc hg2.size _⟩
    case round =>
      clear hB2 hu2 hg2 hb2 la lB hs2 hz2 hbox hX hg hu
      obtain ⟨l', done, cx, cy, i3, g3, B9, hown, hbx, rfl, hb9, n1, n2, n3, rfl, hX, hu3, hrest, hg⟩ := hrel
      have hlen : done.length + l'.length = l.length := by
        have := congrArg List.length hrest.out.1
        simpa [upIdx_length] using this
      cases l' with
      | nil =>
        rw [show up [] = false from rfl]
        have hd : done = upIdx i l := by simpa [upIdx] using hrest.out.1
        clear hrest hbx hb9
        replace hown := Lib.hid hown
        obtain ⟨ao, cp, nn, et⟩ : ∃ ao cp nn, u6 = .slice ao nn cp := by
          rcases hown.out.2 with ⟨e, _⟩ | ⟨_, _, _, e, _⟩
          · exact ⟨_, _, _, e⟩
          · exact ⟨_, _, _, e⟩
        subst et
        rw [hd] at hown
        have hn4 : (upIdx i l).length ≤ 4096 := by rw [upIdx_length]; exact hl
        clear hd hlen hX hu3
        go_wp2_with (go_at_call 46; refine (reverse' wr _ w.heap.size (upIdx i l) hown.out hn4).mono ?_; rintro e w5 ⟨rfl, ho5, hb5⟩; have hg5 := rev_below hown.out hb5 hg; clear hb5; replace ho5 := Lib.hid ho5)
        go_ret2
        exact ⟨_, rfl, by have := ho5.out; unfold pathOf; rw [List.length_reverse]; exact this, hg5⟩
      | cons p l' =>
        rw [show up (p :: l') = true from rfl]
        obtain ⟨px, py⟩ := p
        replace hb9 : wr.heap[B9]? = some (.cells #[.int .i64 px, .int .i64 py] 34 (0, 0)) := hb9
        have hu4 : Ups st i3 g3 l' := hu3
        have hall : (done ++ [cx]) ++ upIdx px l' = upIdx i l := by have := hrest.out.1; simpa [upIdx] using this
        have hleft := Lib.hid hrest.out.2
        replace hall := Lib.hid hall
        have hs := hg.size
        obtain ⟨b0, b1, bz⟩ := box2 hbx
        simp only [List.length_cons] at hlen
        have hdl : Hid _ := hlen
        have hdn : done.length ≤ 4096 := by omega
        have hage := hX.ge
        clear hrest hlen hu3
        go_upto_region 9 with (at_builtin; refine wpList_append_own _ rfl (.tmp 30) (.tmp 33) 26 rfl w.heap.size 3 i0 _ 1 8 Try.underlying26 hi hz0 hz1 hzz rfl (by decide) _ _ _ rfl (hown.alloc _) ⟨wr.heap.size, 0, none⟩ 1 1 [.int .i64 cx] rfl rfl (World.news_of_block (heap_alloc_new wr _)) (by simp [Value.oneCell']) (by simp only [maxLen]; omega) (by omega) (by simp; omega) ?_; intro v' wA hownA hgrow _)
        have apart : ∀ {k : Nat} {cur : Array Value} {t : TypeId}, wr.heap[k]? = some (.cells cur t (0, 0)) → 3 ≠ t → wA.heap[k]? = some (.cells cur t (0, 0)) := fun {k cur t} hk ht => grow_heap hgrow (heap_fresh hk (alloc1 _ _)) (own_apart hown hk ht)
        have kB := apart hbx (by decide)
        have k9 := apart hb9 (by decide)
        have kx := apart hX.tp (by decide)
        have ka := apart hX.pos (by decide)
        have hgA := (hg.alloc hs (.cells #[.int .i64 cx] 3)).grown hgrow (by simp; omega) (fun j hj => (hown.lt j hj).1)
        clear apart hgrow hown hbx hb9 hX hg b0 b1 bz
        obtain ⟨b0, b1, bz⟩ := box2 kB
        obtain ⟨c0, c1, cz⟩ := box2 k9
        go_upto_region 10 with fail
        have hbt := ((But.of (a := B) (Below.refl _ wA)).setCell (p := ⟨B, 0, none⟩) (.inl rfl) (.int .i64 px)).setCell (p := ⟨B, 1, none⟩) (.inl rfl) (.int .i64 py)
        have mB := set_block (set_block kB 0 (.int .i64 px)) 1 (.int .i64 py)
        have m9 := hbt.heap k9 n2
        have mx := hbt.heap kx (fun e => by rw [e, kB] at kx; simp at kx)
        have ma := hbt.heap ka (fun e => hBa e.symm)
        have mo := own_but hownA hbt (fun j hj => own_apart hownA kB (by decide) j hj)
        have mg := hbt.below hgA hBs
        clear hbt kB k9 kx ka hownA hgA b0 b1 bz c0 c1 cz
        generalize (wA.setCell ⟨B, 0, none⟩ (.int .i64 px)).setCell ⟨B, 1, none⟩ (.int .i64 py) = W at *
        obtain ⟨c0, c1, cz⟩ := box2 m9
        have lB := lt_of mB
        have la := lt_of ma
        have lx := lt_of mx
        have hsW := mg.size
        have hX : Bx W w.heap.size x a tb i3 g3 := ⟨mx, ma, hage⟩
        have Hn : Hid _ := fun w' h => next w' x a tb b (w.heap.size ≤ ·) st i3 g3 l' h h1 hu4
        have fin : Hid (∀ w4 e, Nxt l' x a tb b (w.heap.size ≤ ·) st (W.alloc (.cells #[.int .i64 px, .int .i64 py] 34)) e w4 → PathI w x a B tb st (upIdx i l) l'.length v' (.pointer (some ⟨W.heap.size, 0, none⟩)) (.bool (up l'))
            ((w4.setCell ⟨W.heap.size, 0, none⟩ (.int .i64 (hd l').1)).setCell ⟨W.heap.size, 1, none⟩ (.int .i64 (hd l').2))) := by
          rintro w4 e ⟨-, hb4, i4, g4, hB4, hu5, -⟩
          have hbx := hb4.heap (heap_alloc_new W (.cells #[.int .i64 px, .int .i64 py] 34)) (by omega)
          have e2 := set_block (set_block hbx 0 (.int .i64 (hd l').1)) 1 (.int .i64 (hd l').2)
          have q1 : w4.ownsRow w.heap.size 3 1 v' (done.length + 1) _ := own_but (owns_fresh mo (alloc1 W _)) hb4 (fun j hj => own_apart mo ma (by decide) j hj)
          have qB := hb4.heap (heap_fresh mB (alloc1 W _)) hBa
          have hbt := ((But.of (a := W.heap.size) (Below.refl _ w4)).setCell (p := ⟨W.heap.size, 0, none⟩) (.inl rfl) (.int .i64 (hd l').1)).setCell (p := ⟨W.heap.size, 1, none⟩) (.inl rfl) (.int .i64 (hd l').2)
          have q2 := own_but q1 hbt (fun j hj => own_apart q1 hbx (by decide) j hj)
          have hg4 := hb4.below (mg.alloc mg.size (.cells #[.int .i64 px, .int .i64 py] 34)) hage
          refine ⟨l', done ++ [cx], px, py, i4, g4, _, ?_, hbt.heap qB (by omega), rfl, e2, by omega, by omega, by omega, rfl, ⟨hbt.heap hB4.tp (by omega), hbt.heap hB4.pos (by omega), hage⟩, hu5, ⟨hall.out, rfl⟩, hbt.below hg4 hsW⟩
          simpa [ints] using q2
        clear mo mx ma mB m9 hall
        go_wp2_with (go_at_call 56; refine (Hn.out _ ((hX.fresh (alloc1 _ _)).boxes h (mg.alloc mg.size _))).mono ?_; intro e w4 hN; have hF := Lib.hid (fin.out _ _ hN); obtain ⟨rfl, hb4, -⟩ := hN; obtain ⟨d0, d1, dz⟩ := box2 (hb4.heap (heap_alloc_new W _) (by omega)); clear hb4)
        go_roundg l'.length
        case measure => have := hleft.out; simp at this; omega
        case rel => exact hF.out
end Go.Proofs.Ytanahddlnchioaa.Gt
