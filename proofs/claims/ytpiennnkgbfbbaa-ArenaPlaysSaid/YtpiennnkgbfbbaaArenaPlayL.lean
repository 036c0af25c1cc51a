/- A pool of the program's beside the document's. Conditions: none. -/
import Derived.Test.YtpiennnkgbfbbaaArenaPlayC
namespace Go.Proofs.Ytpiennnkgbfbbaa.Arena
open Go.ChangeShapes Go.WideShapes Go.ChangeAt Go.RowKit
set_option linter.unusedVariables false
set_option linter.unusedSimpArgs false

/-- A block of another kind than the pool's three is apart from it. -/
theorem Hold.guard {w0 w : World} {O : Nat → Prop} {N : Int} {b k : Nat} {st : St} {cur : Array Value} {t : TypeId} {f : Nat × Nat} (h : Hold w0 O N b st w) (hk : w.heap[k]? = some (.cells cur t f)) (h1 : t ≠ 64) (h2 : t ≠ 66) (h3 : t ≠ 3) : Hold w0 (With O k) N b st w := by
  obtain ⟨vp, vf, e1, e2, e3, e4⟩ := h.pool
  refine ⟨⟨vp, vf, e1, ?_, ⟨e3.1, ?_⟩, ⟨e4.1, ?_⟩⟩, h.inv, With.lt h.lt (lt_of hk), fun j hj => .inl (h.sub j hj), h.below⟩
  · rintro (h5 | rfl)
    · exact e2 h5
    · rw [hk] at e1; simp at e1; exact h1 e1.2.1
  · rintro j hj (h5 | rfl)
    · exact e3.2 j hj h5
    · exact e3.apart hk (Ne.symm h2) j hj rfl
  · rintro j hj (h5 | rfl)
    · exact e4.2 j hj h5
    · exact e4.apart hk (Ne.symm h3) j hj rfl

theorem own_far {w : World} {B : Nat} {e : TypeId} {s : Nat} {v : Value} {n : Nat} {xs : List Value} {b : Nat} {cur : Array Value} {t : TypeId} {f : Nat × Nat} (h : w.ownsRow B e s v n xs) (hb : w.heap[b]? = some (.cells cur t f)) (hne : e ≠ t) : v.ownBlock ≠ some b := by
  intro hk
  rcases h.2 with ⟨rfl, _⟩ | ⟨g, cap, cur', rfl, _, hh, _⟩
  · cases hk
  · simp [Value.ownBlock] at hk
    subst hk
    rw [hh] at hb
    simp at hb
    exact hne hb.2.1
theorem set5_box {w : World} {b : Nat} {a0 a1 a2 a3 a4 : Value} {t : TypeId} (h : w.heap[b]? = some (.cells #[a0, a1, a2, a3, a4] t (0, 0))) (x0 x1 x2 x3 x4 : Value) :
    (((((w.setCell ⟨b, 0, none⟩ x0).setCell ⟨b, 1, none⟩ x1).setCell ⟨b, 2, none⟩ x2).setCell ⟨b, 3, none⟩ x3).setCell ⟨b, 4, none⟩ x4).heap[b]? = some (.cells #[x0, x1, x2, x3, x4] t (0, 0)) :=
  set_block (set_block (set_block (set_block (set_block h 0 x0) 1 x1) 2 x2) 3 x3) 4 x4

/-- The program's pool holds stp, the document's st; handles that were told are beside them. -/
structure Play (w : World) (B bx : Nat) (N : Int) (n : Nat) (vt : Value) (stp st : St) (T : List (Int × Int)) (v1 v2 v3 v4 : Value) (W : World) : Prop where
  hold : Hold w (With (OL B [vt, v1, v2, v3, v4]) bx) N B stp W
  box : W.heap[bx]? = some (.cells #[.int .i64 st.room, v1, v2, v3, v4] 31 (0, 0))
  ref : RefAt B v1 v2 v3 v4 st W
  told : W.ownsRow B 36 2 vt T.length (cellsH T)
  len : T.length ≤ n
  lt : B < bx
  sub : w.heap.size ≤ B

section
variable {w W W' : World} {B bx : Nat} {N M : Int} {n : Nat} {vt : Value} {stp st : St} {T : List (Int × Int)} {v1 v2 v3 v4 : Value}
theorem Play.fresh (h : Play w B bx N n vt stp st T v1 v2 v3 v4 W) (hg : Below W.heap.size W W') : Play w B bx N n vt stp st T v1 v2 v3 v4 W' :=
  ⟨h.hold.fresh hg, by rw [hg.block bx (lt_of h.box)]; exact h.box, h.ref.fresh hg, owns_fresh h.told hg, h.len, h.lt, h.sub⟩
theorem Play.B_le (h : Play w B bx N n vt stp st T v1 v2 v3 v4 W) : B ≤ W.heap.size := Nat.le_of_lt h.hold.pool.lt
/-- The program's pool was called; two blocks of the caller's more were held apart. -/
theorem Play.did {stp' : St} {k1 k2 : Nat} (h : Play w B bx N n vt stp st T v1 v2 v3 v4 W) (hH : Hold w (With (With (With (OL B [vt, v1, v2, v3, v4]) bx) k1) k2) M B stp' W') (hs : Same (With (With (With (OL B [vt, v1, v2, v3, v4]) bx) k1) k2) W W') : Play w B bx M n vt stp' st T v1 v2 v3 v4 W' := by
  have key : ∀ {e : TypeId} {s : Nat} {v : Value} {m : Nat} {xs : List Value}, v ∈ [vt, v1, v2, v3, v4] → W.ownsRow B e s v m xs → W'.ownsRow B e s v m xs := fun hv ho => owns_same ho hs (fun k hk => .inl (.inl (.inl (.inr ⟨_, hv, hk⟩))))
  refine ⟨hH.less (fun k hk => .inl (.inl hk)) (fun k hk => .inl (OL.sub h.sub _ k hk)), by rw [hs.block bx (.inl (.inl (.inr rfl)))]; exact h.box, ⟨key (by simp) h.ref.o1, key (by simp) h.ref.o2, key (by simp) h.ref.o3, key (by simp) h.ref.o4⟩, key (by simp) h.told, h.len, h.lt, h.sub⟩
/-- The document's pool was turned into another one, which was laid into its box. -/
theorem Play.turn {st' : St} {u1 u2 u3 u4 : Value} {W2 : World} (h : Play w B bx N n vt stp st T v1 v2 v3 v4 W) (hg : Below W.heap.size W W2) (hR : RefAt B u1 u2 u3 u4 st' W2) (hN : Near [u1, u2, u3, u4] [v1, v2, v3, v4] W.heap.size) {r : Int} (hr : st'.room = r) :
    Play w B bx N n vt stp st' T u1 u2 u3 u4 (((((W2.setCell ⟨bx, 0, none⟩ (.int .i64 r)).setCell ⟨bx, 1, none⟩ u1).setCell ⟨bx, 2, none⟩ u2).setCell ⟨bx, 3, none⟩ u3).setCell ⟨bx, 4, none⟩ u4) := by
  subst hr
  have h2 := h.fresh hg
  have hS := set5_grown W2 bx (.int .i64 st'.room) u1 u2 u3 u4
  have hs2 : W2.heap.size ≤ (((((W2.setCell ⟨bx, 0, none⟩ (.int .i64 st'.room)).setCell ⟨bx, 1, none⟩ u1).setCell ⟨bx, 2, none⟩ u2).setCell ⟨bx, 3, none⟩ u3).setCell ⟨bx, 4, none⟩ u4).heap.size := hS.size
  have lts : ∀ u ∈ [u1, u2, u3, u4], ∀ k, u.ownBlock = some k → k < W2.heap.size := by
    intro u hu k hk
    simp at hu
    rcases hu with rfl | rfl | rfl | rfl
    · exact (hR.o1.lt k hk).2
    · exact (hR.o2.lt k hk).2
    · exact (hR.o3.lt k hk).2
    · exact (hR.o4.lt k hk).2
  have keep : ∀ {e : TypeId} {s : Nat} {v : Value} {m : Nat} {xs : List Value}, e ≠ 31 → W2.ownsRow B e s v m xs → (((((W2.setCell ⟨bx, 0, none⟩ (.int .i64 st'.room)).setCell ⟨bx, 1, none⟩ u1).setCell ⟨bx, 2, none⟩ u2).setCell ⟨bx, 3, none⟩ u3).setCell ⟨bx, 4, none⟩ u4).ownsRow B e s v m xs := fun hne ho => ho.kept hS (.inr (own_far ho h2.box hne))
  refine ⟨h.hold.step (fun k h3 h4 => ?_) (fun k hk => ?_) (fun k hk => ?_) (fun k hk => .inl (OL.sub h.sub _ k hk)) ?_, set5_box h2.box _ _ _ _ _, ⟨keep (by decide) hR.o1, keep (by decide) hR.o2, keep (by decide) hR.o3, keep (by decide) hR.o4⟩, keep (by decide) h2.told, h.len, h.lt, h.sub⟩
  · rw [hS.block k (Nat.lt_of_lt_of_le h3 hg.size) (fun e => h4 (.inr (by simpa using e))), hg.block k h3]
  · rcases hk with (hk | ⟨u, hu, hk⟩) | rfl
    · exact .inl (.inl (.inl hk))
    · rcases List.mem_cons.1 hu with rfl | hu
      · exact .inl (.inl (.inr ⟨u, by simp, hk⟩))
      · rcases hN u hu k hk with ⟨v, hv, hvk⟩ | h5
        · exact .inl (.inl (.inr ⟨v, List.mem_cons_of_mem _ hv, hvk⟩))
        · exact .inr h5
    · exact .inl (.inr rfl)
  · rcases hk with (hk | ⟨u, hu, hk⟩) | rfl
    · exact Nat.lt_of_lt_of_le (h2.hold.lt k (.inl (.inl hk))) hs2
    · rcases List.mem_cons.1 hu with rfl | hu
      · exact Nat.lt_of_lt_of_le (h2.told.lt k hk).2 hs2
      · exact Nat.lt_of_lt_of_le (lts u hu k hk) hs2
    · exact Nat.lt_of_lt_of_le (lt_of h2.box) hs2
  · exact h2.hold.below.grown hS h2.hold.below.size (by intro k hk; simp at hk; have := h.lt; have := h.sub; omega)
/-- One more handle was told. -/
theorem Play.tell {W2 : World} {o : Obj} {g c : Nat} {p : Int × Int} (h : Play w B bx N n vt stp st T v1 v2 v3 v4 W) (hg : (W.alloc o).grownBy W2 vt.ownBlock) (hown : W2.ownsRow B 36 2 (.slice (some ⟨g, 0, none⟩) (T.length + 1) c) (T.length + 1) (cellsH T ++ [.int .i64 p.1, .int .i64 p.2])) (hat : vt.ownBlock = some g ∨ g = W.heap.size + 1) (hlt : g < W2.heap.size) :
    Play w B bx N (n + 1) (.slice (some ⟨g, 0, none⟩) (T.length + 1) c) stp st (T ++ [p]) v1 v2 v3 v4 W2 := by
  have hg' := grown_alloc hg
  have hs : W.heap.size ≤ W2.heap.size := hg'.size
  have keep : ∀ {e : TypeId} {v : Value} {m : Nat} {xs : List Value}, e ≠ 36 → W.ownsRow B e 1 v m xs → W2.ownsRow B e 1 v m xs := fun hne ho => owns_kept ho h.told hne hg
  have hbx : vt.ownBlock ≠ some bx := own_far h.told h.box (by decide)
  refine ⟨h.hold.step (fun k h3 h4 => ?_) (fun k hk => ?_) (fun k hk => ?_) (fun k hk => .inl (OL.sub h.sub _ k hk)) ?_, box_kept h.box hg' hbx, ⟨keep (by decide) h.ref.o1, keep (by decide) h.ref.o2, keep (by decide) h.ref.o3, keep (by decide) h.ref.o4⟩, ?_, by simp; exact h.len, h.lt, h.sub⟩
  · rw [hg'.block k h3 (fun e => h4 (.inl (.inr ⟨vt, by simp, e.symm⟩)))]
  · rcases hk with (hk | ⟨u, hu, hk⟩) | rfl
    · exact .inl (.inl (.inl hk))
    · rcases List.mem_cons.1 hu with rfl | hu
      · simp [Value.ownBlock] at hk
        subst hk
        rcases hat with h5 | h5
        · exact .inl (.inl (.inr ⟨vt, by simp, h5⟩))
        · exact .inr (by omega)
      · exact .inl (.inl (.inr ⟨u, List.mem_cons_of_mem _ hu, hk⟩))
    · exact .inl (.inr rfl)
  · rcases hk with (hk | ⟨u, hu, hk⟩) | rfl
    · exact Nat.lt_of_lt_of_le (h.hold.lt k (.inl (.inl hk))) hs
    · rcases List.mem_cons.1 hu with rfl | hu
      · simp [Value.ownBlock] at hk
        subst hk
        exact hlt
      · exact Nat.lt_of_lt_of_le (h.hold.lt k (.inl (.inr ⟨u, List.mem_cons_of_mem _ hu, hk⟩))) hs
    · exact Nat.lt_of_lt_of_le (lt_of h.box) hs
  · exact h.hold.below.grown hg' h.hold.below.size (fun k hk => Nat.le_trans h.sub (h.told.lt k hk).1)
  · rw [cellsH_append]
    simpa [cellsH] using hown
end
end Go.Proofs.Ytpiennnkgbfbbaa.Arena
