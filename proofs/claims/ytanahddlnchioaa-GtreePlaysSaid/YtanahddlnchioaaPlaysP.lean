/- What keeps a tree sound through whatever is done; and the document's tree beside it. Conditions: none. -/
import Derived.Test.YtanahddlnchioaaGtAns
import Derived.Test.YtanahddlnchioaaGtDocU
import Derived.Test.YtanahddlnchioaaArenaRefN
import Derived.Deep.RegionLaw
namespace Go.Proofs.Ytanahddlnchioaa.Gt
open Go.ChangeShapes Go.WideShapes Go.ChangeAt Go.RowKit Hp
set_option linter.unusedVariables false
set_option linter.unusedSimpArgs false

structure Snd (N : Int) (st : St) : Prop where
  inv : Inv N st
  ok : Ok st
  room : st.room = 32
theorem Snd.zero : Snd 0 st0 := ⟨inv0, Ok.zero, rfl⟩
theorem Snd.root {N : Int} {st : St} (h : Snd N st) : st.pl ≠ [] ∧ 0 ∉ st.fr := by
  obtain ⟨k, q, e, hq, hf, _⟩ := St.named h.ok.root
  have hk : k = 0 := by omega
  subst hk
  refine ⟨fun e => by rw [e] at hq; simp at hq, fun h0 => ?_⟩
  obtain ⟨p, hp, hpf⟩ := h.inv.free 0 h0
  rw [hq] at hp
  cases hp
  rw [hf] at hpf
  cases hpf
theorem Snd.mono {N M : Int} {st : St} (h : Snd N st) (hM : N ≤ M) : Snd M st := ⟨h.inv.mono hM, h.ok, h.room⟩

theorem put_room (st : St) (x y : Int) : (st.put x y).st.room = st.room := by
  unfold St.put
  split
  · split <;> rfl
  · split <;> rfl
theorem set_room (st : St) (i g x y : Int) : (st.set i g x y).room = st.room := by unfold St.set; split <;> rfl
theorem free_room (st : St) (i g : Int) : (st.free i g).room = st.room := by unfold St.free; split <;> rfl

theorem Snd.cre {N : Int} {st : St} (h : Snd N st) (hN : 0 ≤ N) (i g : Int) : Snd N (creR st i g).st := by
  unfold creR
  cases hn : st.names i g
  · rw [if_pos rfl]; exact h
  rw [if_neg (by decide)]
  obtain ⟨hu, hl⟩ := h.ok.ups hn
  by_cases h8 : (upsOf st i g).length = 8
  · rw [if_pos h8]; exact h
  rw [if_neg h8]
  rcases put_grew h.inv i g with e | ⟨e0, hgr⟩
  · rw [e]; exact h
  · exact ⟨h.inv.afterPut hN i g, hgr.ok h.ok hu (by omega), (put_room _ _ _).trans h.room⟩

/-- st' is st without i, g. -/
structure Lost (st st' : St) (i g : Int) : Prop where
  keeps : ∀ a b, st.names a b = true → ¬ (a = i ∧ b = g) → st'.names a b = true ∧ st'.thing a b = st.thing a b ∧ st'.tgen a b = st.tgen a b
  only : ∀ a b, st'.names a b = true → st.names a b = true ∧ ¬ (a = i ∧ b = g)
theorem lost {st : St} {i g : Int} (hn : st.names i g = true) : Lost st (st.free i g) i g := by
  obtain ⟨k, q, rfl, hq, hf, rfl⟩ := St.named hn
  have hk := (List.getElem?_eq_some_iff.1 hq).1
  have e : st.free k q.gen = { st with pl := st.pl.set k ⟨0, 0, false, q.gen + 1⟩, fr := st.fr ++ [k] } := by simp [St.free, hn]
  rw [e]
  refine ⟨fun a b h hne => ?_, fun a b h => ?_⟩
  · obtain ⟨j, p, rfl, hp, hpf, rfl⟩ := St.named h
    have hj : k ≠ j := fun e => by
      subst e
      rw [hq] at hp
      cases hp
      exact hne ⟨rfl, rfl⟩
    have h1 := names_at hp hpf
    have h2 := names_at (st := { st with pl := st.pl.set k ⟨0, 0, false, q.gen + 1⟩, fr := st.fr ++ [k] }) (k := j) (q := p) (by simp only; rw [List.getElem?_set_ne hj]; exact hp) hpf
    exact ⟨h2.1, h2.2.1.trans h1.2.1.symm, h2.2.2.trans h1.2.2.symm⟩
  · obtain ⟨j, p, rfl, hp, hpf, rfl⟩ := St.named h
    simp only at hp
    have hj : k ≠ j := fun e => by
      subst e
      rw [List.getElem?_set_self hk] at hp
      cases hp
      cases hpf
    rw [List.getElem?_set_ne hj] at hp
    exact ⟨(names_at hp hpf).1, fun h => hj (by omega)⟩
theorem Lost.ups {st st' : St} {i g : Int} (h : Lost st st' i g) (hk : kidsOf st i g = []) {a b : Int} {l : List (Int × Int)} (hu : Ups st a b l) : ¬ (a = i ∧ b = g) → Ups st' a b l := by
  induction hu with
  | root h0 => exact fun hne => .root (h.keeps _ _ h0 hne).1
  | @step a b l h1 h2 h3 ih =>
    intro hne
    obtain ⟨k1, k2, k3⟩ := h.keeps _ _ h1 hne
    have hp : ¬ (st.thing a b = i ∧ st.tgen a b = g) := fun hp => by
      have hm : (a, b) ∈ kidsOf st i g := List.mem_filter.2 ⟨named_hs h1, by simp [kid?, h2, hp.1, hp.2]⟩
      rw [hk] at hm
      cases hm
    have := ih hp
    rw [← k2, ← k3] at this ⊢
    exact .step k1 h2 this
theorem Snd.des {N : Int} {st : St} (h : Snd N st) (hN : 0 ≤ N) (i g : Int) : Snd (N + 1) (desS st i g) := by
  unfold desS
  by_cases h0 : desN st i g = 0
  · rw [if_pos h0]
    unfold desN at h0
    cases hn : st.names i g
    · rw [if_pos hn] at h0; omega
    cases hr : isRoot i g
    · rw [if_neg (by rw [hn]; decide), if_neg (by rw [hr]; decide)] at h0
      have hk : kidsOf st i g = [] := by
        by_cases hk : 0 < (kidsOf st i g).length
        · rw [if_pos hk] at h0; omega
        · exact List.eq_nil_of_length_eq_zero (by omega)
      have hl := lost hn
      have hne : ¬ ((0 : Int) = i ∧ (0 : Int) = g) := fun e => by
        rw [← e.1, ← e.2] at hr
        cases hr
      refine ⟨h.inv.afterFree i g, ⟨(hl.keeps _ _ h.ok.root hne).1, fun a b hab => ?_⟩, (free_room _ _ _).trans h.room⟩
      obtain ⟨h1, h2⟩ := hl.only a b hab
      obtain ⟨l, hu, hll⟩ := h.ok.ways a b h1
      exact ⟨l, hl.ups hk hu h2, hll⟩
    · rw [if_neg (by rw [hn]; decide), if_pos hr] at h0; omega
  · rw [if_neg h0]; exact h.mono (by omega)
theorem Snd.mov {N : Int} {st : St} (h : Snd N st) (i g j k : Int) : Snd N (movS st i g j k) := by
  unfold movS
  by_cases h0 : movN st i g j k = 0
  · rw [if_pos h0]
    unfold movN at h0
    split at h0
    · omega
    split at h0
    · omega
    split at h0
    · omega
    split at h0
    · omega
    rename_i h1 h2 h3 h4
    have hi : st.names i g = true := by cases h' : st.names i g <;> simp_all
    have hj : st.names j k = true := by cases h' : st.names j k <;> simp_all
    exact ⟨h.inv.afterSet i g j k, (moved hi j k).ok h.ok hi (by cases h' : isRoot i g <;> simp_all) hj (by cases h' : isIn j k i g (upsOf st j k) <;> simp_all) (by omega), (set_room _ _ _ _ _).trans h.room⟩
  · rw [if_neg h0]; exact h

/-- The document's pool beside it. -/
theorem doc_inv {N : Int} {st : St} (h : Inv N st) : Arena.Inv N (doc st) := by
  refine ⟨h.r1, h.r2, by rw [show (doc st).pl.length = st.pl.length from docL_length st.pl]; exact h.len, h.nodup, fun i hi => ?_, ?_, fun q hq => ?_⟩
  · obtain ⟨q, hq, hf⟩ := h.free i hi
    exact ⟨docQ i q, by rw [show (doc st).pl = docL st.pl from rfl, docL_at, hq]; rfl, hf⟩
  · rw [show (doc st).pl.length = st.pl.length from docL_length st.pl, show (doc st).fr = st.fr from rfl, ← h.count]
    congr 1
    show Arena.cnt (docL st.pl) = cnt st.pl
    cases st.pl with
    | nil => rfl
    | cons q l =>
      have key : ∀ l : List Hp.Pl, Arena.cnt (l.map fun q => (⟨q.thing, q.full, q.gen⟩ : Arena.Pl)) = cnt l := by
        intro l
        induction l with
        | nil => rfl
        | cons q l ih => simp only [List.map_cons, Arena.cnt, cnt, ih]
      simp only [docL, Arena.cnt, cnt, key]
  · obtain ⟨k, hk⟩ := List.mem_iff_getElem?.1 hq
    rw [show (doc st).pl = docL st.pl from rfl, docL_at] at hk
    cases hp : st.pl[k]? with
    | none => rw [hp] at hk; simp at hk
    | some p =>
      rw [hp] at hk
      simp at hk
      subst hk
      exact h.gens p (List.mem_of_getElem? hp)
end Go.Proofs.Ytanahddlnchioaa.Gt

/- The document's calls of a pool under what keeps it sound. Conditions: none. -/
namespace Go.Proofs.Ytanahddlnchioaa.Arena
open Go.ChangeShapes Go.WideShapes Go.ChangeAt Go.RowKit
set_option linter.unusedVariables false
set_option linter.unusedSimpArgs false

section
variable {w : World} {B : Nat} {v1 v2 v3 v4 : Value} {st : St} {N : Int}
theorem refPut (x : Int) (h : RefAt B v1 v2 v3 v4 st w) (hB : B ≤ w.heap.size) (hI : Inv N st) :
    Calls Try.prog 23 #[.agg #[.int .i64 st.room, v1, v2, v3, v4], .int .i64 x] w (IsPutR B st.room v1 v2 v3 v4 (st.put x).i (st.put x).g (st.put x).n (st.put x).st w) := by
  have l1 := hI.l1
  have l2 := hI.l2
  rcases hI.put x with ⟨hf, hl, e⟩ | ⟨hf, hl, e⟩ | ⟨l, i, q, hf, hq, hqf, e⟩
  · rw [e]; exact refPut_full w B v1 v2 v3 v4 st x h l1 hf hl
  · rw [e]; exact refPut_new w B v1 v2 v3 v4 st x h hB l1 l2 hf hl
  · rw [e]; exact refPut_old w B v1 v2 v3 v4 st x h hB l1 l2 l i q hf hq
theorem refSet (i g x : Int) (h : RefAt B v1 v2 v3 v4 st w) (hB : B ≤ w.heap.size) (hI : Inv N st) :
    Calls Try.prog 38 #[.agg #[.int .i64 st.room, v1, v2, v3, v4], .agg #[.int .i64 i, .int .i64 g], .int .i64 x] w (IsSet B st.room v1 v2 v3 v4 (st.err i g) (st.set i g x) w) := by
  cases hn : st.names i g
  · rw [show st.set i g x = st by simp [St.set, hn], show st.err i g = 2 by simp [St.err, hn]]
    exact refSet_none w B st.room v1 v2 v3 v4 st i g x h hI.l1 hn
  obtain ⟨k, q, rfl, hq, hqf, rfl⟩ := St.named hn
  rw [show st.set k q.gen x = { st with pl := st.pl.set k ⟨x, true, q.gen⟩ } by simp [St.set, hn], show st.err k q.gen = 0 by simp [St.err, hn]]
  exact refSet_some w B st.room v1 v2 v3 v4 st k q x h hB hI.l1 hI.l2 hq hqf
theorem refFree (i g : Int) (h : RefAt B v1 v2 v3 v4 st w) (hB : B ≤ w.heap.size) (hI : Inv N st) (hN : N ≤ 1000000000) :
    Calls Try.prog 32 #[.agg #[.int .i64 st.room, v1, v2, v3, v4], .agg #[.int .i64 i, .int .i64 g]] w (IsFreeR B st.room v1 v2 v3 v4 (st.thing i g) (st.err i g) (st.free i g) w) := by
  cases hn : st.names i g
  · rw [show st.free i g = st by simp [St.free, hn], show st.err i g = 2 by simp [St.err, hn], show st.thing i g = 0 by simp [St.thing, hn]]
    exact refFree_none w B st.room v1 v2 v3 v4 st i g h hI.l1 hn
  obtain ⟨k, q, rfl, hq, hqf, rfl⟩ := St.named hn
  have := hI.gens q (List.mem_of_getElem? hq)
  rw [show st.free k q.gen = { st with pl := st.pl.set k ⟨0, false, q.gen + 1⟩, fr := st.fr ++ [k] } by simp [St.free, hn], show st.err k q.gen = 0 by simp [St.err, hn], show st.thing k q.gen = q.thing by simp [St.thing, hn, St.at, hq]]
  exact refFree_some w B st.room v1 v2 v3 v4 st k q h hB hI.l1 hI.l2 hq hqf (by omega) (by omega)
end

theorem Near.mono {us vs : List Value} {n m : Nat} (h : Near us vs m) (hn : n ≤ m) : Near us vs n := fun u hu k hk => (h u hu k hk).imp id (fun h => Nat.le_trans hn h)
theorem RefAt.low {B : Nat} {v1 v2 v3 v4 : Value} {st : St} {w : World} (h : RefAt B v1 v2 v3 v4 st w) : ∀ v ∈ [v1, v2, v3, v4], ∀ k, v.ownBlock = some k → k < w.heap.size := by
  intro u hu k hk
  simp at hu
  rcases hu with rfl | rfl | rfl | rfl
  · exact (h.o1.lt k hk).2
  · exact (h.o2.lt k hk).2
  · exact (h.o3.lt k hk).2
  · exact (h.o4.lt k hk).2
/-- A box that stood between: what was told lies beside it. -/
theorem RefAt.past {B b n m : Nat} {u1 u2 u3 u4 : Value} {vs : List Value} {st : St} {W W' : World} (h : RefAt B u1 u2 u3 u4 st W) (hN : Near [u1, u2, u3, u4] vs n) (hv : ∀ v ∈ vs, ∀ k, v.ownBlock = some k → k < m) (hm : m ≤ b) (hb : b < n) (hg : W.grownBy W' (some b)) : RefAt B u1 u2 u3 u4 st W' := by
  have key : ∀ {e : TypeId} {v : Value} {l : Nat} {xs : List Value}, v ∈ [u1, u2, u3, u4] → W.ownsRow B e 1 v l xs → W'.ownsRow B e 1 v l xs := fun hu hr => kept_box hr hg (fun e => by
    rcases hN _ hu b (by first | exact e | exact e.symm) with ⟨v, hv', hk⟩ | h
    · have := hv v hv' b hk; omega
    · omega)
  exact ⟨key (by simp) h.o1, key (by simp) h.o2, key (by simp) h.o3, key (by simp) h.o4⟩
end Go.Proofs.Ytanahddlnchioaa.Arena

/- What Create of the document's tree answers. Conditions: as each fact states them. -/
namespace Go.Proofs.Ytanahddlnchioaa.Gt
open Go.ChangeShapes Go.WideShapes Go.ChangeAt Go.RowKit Hp
set_option linter.unusedVariables false
set_option linter.unusedSimpArgs false
set_option maxRecDepth 100000

/-- A tree and a handle told, and a number; what it was made of lies near the old one's. -/
def IsTre (B : Nat) (r : Int) (v1 v2 v3 v4 : Value) (x : Value → Value) (st : St) (w : World) (e : Ending) (w' : World) : Prop :=
  ∃ u1 u2 u3 u4, e = .returned (x (.agg #[.int .i64 r, u1, u2, u3, u4])) ∧ Arena.RefAt B u1 u2 u3 u4 (doc st) w' ∧ Arena.Near [u1, u2, u3, u4] [v1, v2, v3, v4] w.heap.size ∧ Below w.heap.size w w'
/-- Where the boxes of Create stand: the tree's, the handle's, both answers'. -/
structure Box4 (w : World) (r : Int) (v1 v2 v3 v4 : Value) (i g : Int) (W : World) : Prop where
  t : W.heap[w.heap.size]? = some (treO r v1 v2 v3 v4)
  h : W.heap[w.heap.size + 1]? = some (hanO i g)
  y : W.heap[w.heap.size + 2]? = some (treO 0 (.slice none 0 0) (.slice none 0 0) (.slice none 0 0) (.slice none 0 0))
  z : W.heap[w.heap.size + 3]? = some (hanO 0 0)
  b : Below w.heap.size w W
theorem box4 (w : World) (r : Int) (v1 v2 v3 v4 : Value) (i g : Int) : Box4 w r v1 v2 v3 v4 i g ((((w.alloc (treO r v1 v2 v3 v4)).alloc (hanO i g)).alloc (treO 0 (.slice none 0 0) (.slice none 0 0) (.slice none 0 0) (.slice none 0 0))).alloc (hanO 0 0)) := by
  refine ⟨heap_fresh (heap_fresh (heap_fresh (heap_alloc_new w _) (alloc1 _ _)) (alloc1 _ _)) (alloc1 _ _), heap_fresh (heap_fresh ?_ (alloc1 _ _)) (alloc1 _ _), heap_fresh ?_ (alloc1 _ _), ?_, ((((Below.refl w.heap.size w).alloc (Nat.le_refl _) _).alloc (by simp) _).alloc (by simp; omega) _).alloc (by simp; omega) _⟩
  · simpa using heap_alloc_new (w.alloc (treO r v1 v2 v3 v4)) (hanO i g)
  · simpa using heap_alloc_new ((w.alloc (treO r v1 v2 v3 v4)).alloc (hanO i g)) (treO 0 (.slice none 0 0) (.slice none 0 0) (.slice none 0 0) (.slice none 0 0))
  · simpa using heap_alloc_new (((w.alloc (treO r v1 v2 v3 v4)).alloc (hanO i g)).alloc (treO 0 (.slice none 0 0) (.slice none 0 0) (.slice none 0 0) (.slice none 0 0))) (hanO 0 0)
theorem Box4.fresh {w W W' : World} {r : Int} {v1 v2 v3 v4 : Value} {i g : Int} (h : Box4 w r v1 v2 v3 v4 i g W) (hg : Below W.heap.size W W') : Box4 w r v1 v2 v3 v4 i g W' :=
  ⟨heap_fresh h.t hg, heap_fresh h.h hg, heap_fresh h.y hg, heap_fresh h.z hg, h.b.trans (hg.mono h.b.size)⟩
theorem Box4.cells {w W : World} {r : Int} {v1 v2 v3 v4 : Value} {i g : Int} (h : Box4 w r v1 v2 v3 v4 i g W) :
    (W.cell? ⟨w.heap.size, 0, none⟩ = some (.int .i64 r) ∧ W.cell? ⟨w.heap.size, 1, none⟩ = some v1 ∧ W.cell? ⟨w.heap.size, 2, none⟩ = some v2 ∧ W.cell? ⟨w.heap.size, 3, none⟩ = some v3 ∧ W.cell? ⟨w.heap.size, 4, none⟩ = some v4 ∧ ∀ j, W.frozen? ⟨w.heap.size, j, none⟩ = false) ∧
    (W.cell? ⟨w.heap.size + 1, 0, none⟩ = some (.int .i64 i) ∧ W.cell? ⟨w.heap.size + 1, 1, none⟩ = some (.int .i64 g) ∧ ∀ j, W.frozen? ⟨w.heap.size + 1, j, none⟩ = false) ∧
    (W.cell? ⟨w.heap.size + 2, 0, none⟩ = some (.int .i64 0) ∧ W.cell? ⟨w.heap.size + 2, 1, none⟩ = some (.slice none 0 0) ∧ W.cell? ⟨w.heap.size + 2, 2, none⟩ = some (.slice none 0 0) ∧ W.cell? ⟨w.heap.size + 2, 3, none⟩ = some (.slice none 0 0) ∧ W.cell? ⟨w.heap.size + 2, 4, none⟩ = some (.slice none 0 0) ∧ ∀ j, W.frozen? ⟨w.heap.size + 2, j, none⟩ = false) ∧
    (W.cell? ⟨w.heap.size + 3, 0, none⟩ = some (.int .i64 0) ∧ W.cell? ⟨w.heap.size + 3, 1, none⟩ = some (.int .i64 0) ∧ ∀ j, W.frozen? ⟨w.heap.size + 3, j, none⟩ = false) := by
  have h1 : W.heap[w.heap.size]? = some (.cells #[.int .i64 r, v1, v2, v3, v4] 31 (0, 0)) := h.t
  have h2 : W.heap[w.heap.size + 1]? = some (.cells #[.int .i64 i, .int .i64 g] 34 (0, 0)) := h.h
  have h3 : W.heap[w.heap.size + 2]? = some (.cells #[.int .i64 0, .slice none 0 0, .slice none 0 0, .slice none 0 0, .slice none 0 0] 31 (0, 0)) := h.y
  have h4 : W.heap[w.heap.size + 3]? = some (.cells #[.int .i64 0, .int .i64 0] 34 (0, 0)) := h.z
  exact ⟨Arena.five h1, Arena.pair h2, Arena.five h3, Arena.pair h4⟩
/-- Both answers stored. -/
def put7 (W : World) (b : Nat) (a0 a1 a2 a3 a4 c0 c1 : Value) : World := (((((((W.setCell ⟨b, 0, none⟩ a0).setCell ⟨b, 1, none⟩ a1).setCell ⟨b, 2, none⟩ a2).setCell ⟨b, 3, none⟩ a3).setCell ⟨b, 4, none⟩ a4).setCell ⟨b + 1, 0, none⟩ c0).setCell ⟨b + 1, 1, none⟩ c1)
theorem put7_below {n b : Nat} {w W : World} (h : Below n w W) (hb : n ≤ b) (a0 a1 a2 a3 a4 c0 c1 : Value) : Below n w (put7 W b a0 a1 a2 a3 a4 c0 c1) :=
  ((((((h.setCell (p := ⟨b, 0, none⟩) hb a0).setCell (p := ⟨b, 1, none⟩) hb a1).setCell (p := ⟨b, 2, none⟩) hb a2).setCell (p := ⟨b, 3, none⟩) hb a3).setCell (p := ⟨b, 4, none⟩) hb a4).setCell (p := ⟨b + 1, 0, none⟩) (by simp; omega) c0).setCell (p := ⟨b + 1, 1, none⟩) (by simp; omega) c1

theorem refCreate_none (w : World) (B : Nat) (r : Int) (v1 v2 v3 v4 : Value) (st : St) (i g : Int) (h : Arena.RefAt B v1 v2 v3 v4 (doc st) w) (h1 : st.pl.length ≤ 4096) (hn : st.names i g = false) :
    Calls Try.prog 9 #[.agg #[.int .i64 r, v1, v2, v3, v4], .agg #[.int .i64 i, .int .i64 g]] w (IsTre B r v1 v2 v3 v4 (fun t => .tuple #[t, .agg #[.int .i64 0, .int .i64 0], .int .i64 2]) st w) := by
  have PB := box4 w r v1 v2 v3 v4 i g
  have N := Lib.hid (fun W (hB : Box4 w r v1 v2 v3 v4 i g W) => Arena.refNames W B r v1 v2 v3 v4 (doc st) i g (h.fresh hB.b) (by rw [doc_len]; exact h1))
  rw [doc_names, hn] at N
  have FIN : Hid (∀ W W', Box4 w r v1 v2 v3 v4 i g W → W' = put7 W (w.heap.size + 2) (.int .i64 r) v1 v2 v3 v4 (.int .i64 0) (.int .i64 0) → IsTre B r v1 v2 v3 v4 (fun t => .tuple #[t, .agg #[.int .i64 0, .int .i64 0], .int .i64 2]) st w (.returned (.tuple #[.agg #[.int .i64 r, v1, v2, v3, v4], .agg #[.int .i64 0, .int .i64 0], .int .i64 2])) W') := fun W W' hB e => by
    subst e
    have hb := put7_below hB.b (show w.heap.size ≤ w.heap.size + 2 by omega) (.int .i64 r) v1 v2 v3 v4 (.int .i64 0) (.int .i64 0)
    exact ⟨_, _, _, _, rfl, h.fresh hb, Arena.Near.refl _ _, hb⟩
  unfold treO hanO at PB
  clear hn
  obtain ⟨p1, q1, e1⟩ := Arena.owns_shape h.o1
  obtain ⟨p2, q2, e2⟩ := Arena.owns_shape h.o2
  obtain ⟨p3, q3, e3⟩ := Arena.owns_shape h.o3
  obtain ⟨p4, q4, e4⟩ := Arena.owns_shape h.o4
  subst e1 e2 e3 e4
  generalize (doc st).pl.length = ln at *
  generalize (doc st).fr.length = lf at *
  clear h
  go_enter Try.func9, Try.ntmps9
  go_wp2_with fail
  generalize (((w.alloc _).alloc _).alloc _).alloc _ = W at *
  go_at_call 25; refine (N.out _ PB).mono ?_; rintro e w1 ⟨rfl, hg1⟩
  have P1 := PB.fresh hg1
  obtain ⟨⟨b0, b1, b2, b3, b4, bz⟩, ⟨x0, x1, xz⟩, ⟨y0, y1, y2, y3, y4, yz⟩, ⟨z0, z1, zz⟩⟩ := P1.cells
  have F1 := Lib.hid (FIN.out _ _ P1 rfl)
  unfold put7 at F1
  clear FIN N
  go_wp2_with fail
  refine bodyPost_ret (v := .tuple #[.agg #[.int .i64 r, .slice p1 ln q1, .slice p2 ln q2, .slice p3 ln q3, .slice p4 lf q4], .agg #[.int .i64 0, .int .i64 0], .int .i64 2]) (by simp [results, Try.results9, go_sem, y0, y1, y2, y3, y4, z0, z1]) rfl ?_
  exact F1.out
end Go.Proofs.Ytanahddlnchioaa.Gt

/- What Create of the document's tree answers, by one that is too deep, and by others. Conditions: as each fact states them. -/
namespace Go.Proofs.Ytanahddlnchioaa.Gt
open Go.ChangeShapes Go.WideShapes Go.ChangeAt Go.RowKit Hp
set_option linter.unusedVariables false
set_option linter.unusedSimpArgs false
set_option maxRecDepth 100000

theorem refCreate_deep (w : World) (B : Nat) (r : Int) (v1 v2 v3 v4 : Value) (st : St) (i g : Int) (l : List (Int × Int)) (h : Arena.RefAt B v1 v2 v3 v4 (doc st) w) (h1 : st.pl.length ≤ 4096) (hu : Ups st i g l) (hl : l.length = 8) :
    Calls Try.prog 9 #[.agg #[.int .i64 r, v1, v2, v3, v4], .agg #[.int .i64 i, .int .i64 g]] w (IsTre B r v1 v2 v3 v4 (fun t => .tuple #[t, .agg #[.int .i64 0, .int .i64 0], .int .i64 5]) st w) := by
  have PB := box4 w r v1 v2 v3 v4 i g
  have N := Lib.hid (fun W (hB : Box4 w r v1 v2 v3 v4 i g W) => Arena.refNames W B r v1 v2 v3 v4 (doc st) i g (h.fresh hB.b) (by rw [doc_len]; exact h1))
  rw [doc_names, hu.named] at N
  have D := Lib.hid (fun W (hB : Box4 w r v1 v2 v3 v4 i g W) => refDepth W B r v1 v2 v3 v4 st i g l (h.fresh hB.b) h1 hu (by omega))
  rw [hl] at D
  have FIN : Hid (∀ W W', Box4 w r v1 v2 v3 v4 i g W → W' = put7 W (w.heap.size + 2) (.int .i64 r) v1 v2 v3 v4 (.int .i64 0) (.int .i64 0) → IsTre B r v1 v2 v3 v4 (fun t => .tuple #[t, .agg #[.int .i64 0, .int .i64 0], .int .i64 5]) st w (.returned (.tuple #[.agg #[.int .i64 r, v1, v2, v3, v4], .agg #[.int .i64 0, .int .i64 0], .int .i64 5])) W') := fun W W' hB e => by
    subst e
    have hb := put7_below hB.b (show w.heap.size ≤ w.heap.size + 2 by omega) (.int .i64 r) v1 v2 v3 v4 (.int .i64 0) (.int .i64 0)
    exact ⟨_, _, _, _, rfl, h.fresh hb, Arena.Near.refl _ _, hb⟩
  unfold treO hanO at PB
  clear hu hl
  obtain ⟨p1, q1, e1⟩ := Arena.owns_shape h.o1
  obtain ⟨p2, q2, e2⟩ := Arena.owns_shape h.o2
  obtain ⟨p3, q3, e3⟩ := Arena.owns_shape h.o3
  obtain ⟨p4, q4, e4⟩ := Arena.owns_shape h.o4
  subst e1 e2 e3 e4
  generalize (doc st).pl.length = ln at *
  generalize (doc st).fr.length = lf at *
  clear h
  go_enter Try.func9, Try.ntmps9
  go_wp2_with fail
  generalize (((w.alloc _).alloc _).alloc _).alloc _ = W at *
  go_at_call 25; refine (N.out _ PB).mono ?_; rintro e w1 ⟨rfl, hg1⟩
  have P1 := PB.fresh hg1
  obtain ⟨⟨b0, b1, b2, b3, b4, bz⟩, ⟨x0, x1, xz⟩, _⟩ := P1.cells
  go_wp2_with fail
  go_at_call 26; refine (D.out _ P1).mono ?_; rintro e w2 ⟨rfl, hg2⟩
  have P2 := P1.fresh hg2
  clear b0 b1 b2 b3 b4 bz x0 x1 xz
  obtain ⟨⟨b0, b1, b2, b3, b4, bz⟩, ⟨x0, x1, xz⟩, ⟨y0, y1, y2, y3, y4, yz⟩, ⟨z0, z1, zz⟩⟩ := P2.cells
  have F1 := Lib.hid (FIN.out _ _ P2 rfl)
  unfold put7 at F1
  clear FIN N D P1 PB hg1 hg2
  go_wp2_with fail
  refine bodyPost_ret (v := .tuple #[.agg #[.int .i64 r, .slice p1 ln q1, .slice p2 ln q2, .slice p3 ln q3, .slice p4 lf q4], .agg #[.int .i64 0, .int .i64 0], .int .i64 5]) (by simp [results, Try.results9, go_sem, y0, y1, y2, y3, y4, z0, z1]) rfl ?_
  exact F1.out

theorem put7_grown (W : World) (b : Nat) (a0 a1 a2 a3 a4 c0 c1 : Value) : ∃ W1, W.grownBy W1 (some b) ∧ W1.grownBy (put7 W b a0 a1 a2 a3 a4 c0 c1) (some (b + 1)) := ⟨_, Arena.set5_grown W b a0 a1 a2 a3 a4, Arena.set2_grown _ (b + 1) c0 c1⟩
set_option maxHeartbeats 4000000 in
theorem refCreate_some (w : World) (B : Nat) (N0 : Int) (v1 v2 v3 v4 : Value) (st : St) (i g : Int) (l : List (Int × Int)) (h : Arena.RefAt B v1 v2 v3 v4 (doc st) w) (hB : B ≤ w.heap.size) (hS : Snd N0 st) (hu : Ups st i g l) (hl : l.length < 8) :
    Calls Try.prog 9 #[.agg #[.int .i64 st.room, v1, v2, v3, v4], .agg #[.int .i64 i, .int .i64 g]] w (IsTre B st.room v1 v2 v3 v4 (fun t => .tuple #[t, .agg #[.int .i64 (st.put i g).i, .int .i64 (st.put i g).g], .int .i64 (st.put i g).n]) (st.put i g).st w) := by
  have h1 := hS.inv.l1
  have PB := box4 w st.room v1 v2 v3 v4 i g
  have N := Lib.hid (fun W (hB : Box4 w st.room v1 v2 v3 v4 i g W) => Arena.refNames W B st.room v1 v2 v3 v4 (doc st) i g (h.fresh hB.b) (by rw [doc_len]; exact h1))
  rw [doc_names, hu.named] at N
  have D := Lib.hid (fun W (hB : Box4 w st.room v1 v2 v3 v4 i g W) => refDepth W B st.room v1 v2 v3 v4 st i g l (h.fresh hB.b) h1 hu (by omega))
  have P := Lib.hid (fun W (hW : Box4 w st.room v1 v2 v3 v4 i g W) => Arena.refPut (w := W) (st := doc st) i (h.fresh hW.b) (Nat.le_trans hB hW.b.size) (doc_inv hS.inv))
  rw [doc_put hS.root.1 hS.root.2 i g] at P
  have hlow := h.low
  generalize (st.put i g).st = sp at *
  generalize (st.put i g).i = pi at *
  generalize (st.put i g).g = pg at *
  generalize (st.put i g).n = pn at *
  have hr : (doc st).room = st.room := rfl
  rw [hr] at P
  clear hr
  simp only at P
  generalize st.room = r at *
  have FIN : Hid (∀ W w3 u1 u2 u3 u4 W', Box4 w r v1 v2 v3 v4 i g W → Arena.RefAt B u1 u2 u3 u4 (doc sp) w3 → Arena.Near [u1, u2, u3, u4] [v1, v2, v3, v4] W.heap.size → Below W.heap.size W w3 → w.heap.size + 3 < W.heap.size →
      W' = (put7 ((w3.alloc (.cells #[.int .i64 r, u1, u2, u3, u4] 29)).alloc (.cells #[.int .i64 pi, .int .i64 pg] 34)) (w.heap.size + 2) (.int .i64 r) u1 u2 u3 u4 (.int .i64 pi) (.int .i64 pg)).drew →
      IsTre B r v1 v2 v3 v4 (fun t => .tuple #[t, .agg #[.int .i64 pi, .int .i64 pg], .int .i64 pn]) sp w (.returned (.tuple #[.agg #[.int .i64 r, u1, u2, u3, u4], .agg #[.int .i64 pi, .int .i64 pg], .int .i64 pn])) W') := fun W w3 u1 u2 u3 u4 W' hW hR hN hg hsz e => by
    subst e
    have b1 : Below w3.heap.size w3 ((w3.alloc (.cells #[.int .i64 r, u1, u2, u3, u4] 29)).alloc (.cells #[.int .i64 pi, .int .i64 pg] 34)) := alloc2 w3 _ _
    have b2 := hW.b.trans ((hg.trans (b1.mono hg.size)).mono hW.b.size)
    obtain ⟨W1, g1, g2⟩ := put7_grown ((w3.alloc (.cells #[.int .i64 r, u1, u2, u3, u4] 29)).alloc (.cells #[.int .i64 pi, .int .i64 pg] 34)) (w.heap.size + 2) (.int .i64 r) u1 u2 u3 u4 (.int .i64 pi) (.int .i64 pg)
    exact ⟨_, _, _, _, rfl, (((hR.fresh b1).past hN hlow (by omega) (by omega) g1).past hN hlow (by omega) (by omega) g2).fresh (Below.refl _ _).drew, hN.mono hW.b.size, (put7_below b2 (by omega) _ _ _ _ _ _ _).drew⟩
  unfold treO hanO at PB
  have hl' : (l.length : Int) < 8 := by omega
  have hl2 : decide ((8 : Int) ≤ l.length) = false := by simp; omega
  generalize hll : l.length = ln at *
  clear hu hl hll hS hlow h1 hB
  obtain ⟨p1, q1, e1⟩ := Arena.owns_shape h.o1
  obtain ⟨p2, q2, e2⟩ := Arena.owns_shape h.o2
  obtain ⟨p3, q3, e3⟩ := Arena.owns_shape h.o3
  obtain ⟨p4, q4, e4⟩ := Arena.owns_shape h.o4
  subst e1 e2 e3 e4
  generalize (doc st).pl.length = dn at *
  generalize (doc st).fr.length = df at *
  clear h
  go_enter Try.func9, Try.ntmps9
  go_wp2_with fail
  have hsz : w.heap.size + 3 < ((((w.alloc (.cells #[.int .i64 r, .slice p1 dn q1, .slice p2 dn q2, .slice p3 dn q3, .slice p4 df q4] 31 (0, 0))).alloc (.cells #[.int .i64 i, .int .i64 g] 34 (0, 0))).alloc (.cells #[.int .i64 0, .slice none 0 0, .slice none 0 0, .slice none 0 0, .slice none 0 0] 31 (0, 0))).alloc (.cells #[.int .i64 0, .int .i64 0] 34 (0, 0))).heap.size := by simp
  generalize (((w.alloc _).alloc _).alloc _).alloc _ = W at *
  go_at_call 25; refine (N.out _ PB).mono ?_; rintro e w1 ⟨rfl, hg1⟩
  have P1 := PB.fresh hg1
  obtain ⟨⟨b0, b1, b2, b3, b4, bz⟩, ⟨x0, x1, xz⟩, _⟩ := P1.cells
  go_wp2_with fail
  go_at_call 26; refine (D.out _ P1).mono ?_; rintro e w2 ⟨rfl, hg2⟩
  have P2 := P1.fresh hg2
  clear b0 b1 b2 b3 b4 bz x0 x1 xz
  obtain ⟨⟨b0, b1, b2, b3, b4, bz⟩, ⟨x0, x1, xz⟩, _⟩ := P2.cells
  go_wp2_with fail
  go_at_call 23; refine (P.out _ P2).mono ?_; rintro e w3 ⟨u1, u2, u3, u4, rfl, hR, hN, hg3⟩
  have hsz2 : w.heap.size + 3 < w2.heap.size := by have := hg1.size; have := hg2.size; omega
  obtain ⟨s1, c1, e1⟩ := Arena.owns_shape hR.o1
  obtain ⟨s2, c2, e2⟩ := Arena.owns_shape hR.o2
  obtain ⟨s3, c3, e3⟩ := Arena.owns_shape hR.o3
  obtain ⟨s4, c4, e4⟩ := Arena.owns_shape hR.o4
  subst e1 e2 e3 e4
  obtain ⟨ek1, ek2, ek3, ek4⟩ : w3.heap.size ≠ w.heap.size + 2 ∧ w3.heap.size ≠ w.heap.size + 3 ∧ w3.heap.size + 1 ≠ w.heap.size + 2 ∧ w3.heap.size + 1 ≠ w.heap.size + 3 := by have := hg3.size; omega
  have F1 := Lib.hid (fun W' => FIN.out w2 w3 _ _ _ _ W' P2 hR hN hg3 hsz2)
  have P4 := (P2.fresh hg3).fresh (alloc2 w3 (.cells #[.int .i64 r, .slice s1 (doc sp).pl.length c1, .slice s2 (doc sp).pl.length c2, .slice s3 (doc sp).pl.length c3, .slice s4 (doc sp).fr.length c4] 29) (.cells #[.int .i64 pi, .int .i64 pg] 34))
  generalize (doc sp).pl.length = mn at *
  generalize (doc sp).fr.length = mf at *
  have a7 := Arena.five (heap_fresh (heap_alloc_new w3 (.cells #[.int .i64 r, .slice s1 mn c1, .slice s2 mn c2, .slice s3 mn c3, .slice s4 mf c4] 29)) (alloc1 (w3.alloc (.cells #[.int .i64 r, .slice s1 mn c1, .slice s2 mn c2, .slice s3 mn c3, .slice s4 mf c4] 29)) (.cells #[.int .i64 pi, .int .i64 pg] 34)))
  have a8 := Arena.pair (heap_alloc_new (w3.alloc (.cells #[.int .i64 r, .slice s1 mn c1, .slice s2 mn c2, .slice s3 mn c3, .slice s4 mf c4] 29)) (.cells #[.int .i64 pi, .int .i64 pg] 34))
  rw [show (w3.alloc (.cells #[.int .i64 r, .slice s1 mn c1, .slice s2 mn c2, .slice s3 mn c3, .slice s4 mf c4] 29)).heap.size = w3.heap.size + 1 by simp] at a8
  unfold put7 at F1
  clear FIN N D P PB P1 P2 hR hN hg1 hg2 hg3 hsz hsz2 b0 b1 b2 b3 b4 bz x0 x1 xz
  go_wp2_with fail
  generalize (w3.alloc _).alloc _ = V at *
  obtain ⟨_, _, ⟨y0, y1, y2, y3, y4, yz⟩, ⟨z0, z1, zz⟩⟩ := P4.cells
  obtain ⟨k0, k1, k2, k3, k4, kz⟩ := a7
  obtain ⟨m0, m1, mz⟩ := a8
  have dz : ∀ b o, V.drew.cell? ⟨b, o, none⟩ = V.cell? ⟨b, o, none⟩ := fun _ _ => rfl
  have ez : ∀ b o, V.drew.frozen? ⟨b, o, none⟩ = V.frozen? ⟨b, o, none⟩ := fun _ _ => rfl
  go_region
  all_goals
    go_wp2_with fail
    refine bodyPost_ret (v := .tuple #[.agg #[.int .i64 r, .slice s1 mn c1, .slice s2 mn c2, .slice s3 mn c3, .slice s4 mf c4], .agg #[.int .i64 pi, .int .i64 pg], .int .i64 pn]) (by simp [results, Try.results9, go_sem, y0, y1, y2, y3, y4, z0, z1]) rfl ?_
    exact F1.out _ rfl
end Go.Proofs.Ytanahddlnchioaa.Gt

/- What Destroy of the document's tree answers. Conditions: as each fact states them. -/
namespace Go.Proofs.Ytanahddlnchioaa.Gt
open Go.ChangeShapes Go.WideShapes Go.ChangeAt Go.RowKit Hp
set_option linter.unusedVariables false
set_option linter.unusedSimpArgs false
set_option maxRecDepth 100000

/-- Where the boxes of Destroy stand: the tree's, the handle's, the answer's. -/
structure BoxD (w : World) (r : Int) (v1 v2 v3 v4 : Value) (i g : Int) (W : World) : Prop where
  t : W.heap[w.heap.size]? = some (treO r v1 v2 v3 v4)
  h : W.heap[w.heap.size + 1]? = some (hanO i g)
  y : W.heap[w.heap.size + 2]? = some (treO 0 (.slice none 0 0) (.slice none 0 0) (.slice none 0 0) (.slice none 0 0))
  b : Below w.heap.size w W
theorem boxD (w : World) (r : Int) (v1 v2 v3 v4 : Value) (i g : Int) : BoxD w r v1 v2 v3 v4 i g (((w.alloc (treO r v1 v2 v3 v4)).alloc (hanO i g)).alloc (treO 0 (.slice none 0 0) (.slice none 0 0) (.slice none 0 0) (.slice none 0 0))) := by
  refine ⟨heap_fresh (heap_fresh (heap_alloc_new w _) (alloc1 _ _)) (alloc1 _ _), heap_fresh ?_ (alloc1 _ _), ?_, (((Below.refl w.heap.size w).alloc (Nat.le_refl _) _).alloc (by simp) _).alloc (by simp; omega) _⟩
  · simpa using heap_alloc_new (w.alloc (treO r v1 v2 v3 v4)) (hanO i g)
  · simpa using heap_alloc_new ((w.alloc (treO r v1 v2 v3 v4)).alloc (hanO i g)) (treO 0 (.slice none 0 0) (.slice none 0 0) (.slice none 0 0) (.slice none 0 0))
theorem BoxD.fresh {w W W' : World} {r : Int} {v1 v2 v3 v4 : Value} {i g : Int} (h : BoxD w r v1 v2 v3 v4 i g W) (hg : Below W.heap.size W W') : BoxD w r v1 v2 v3 v4 i g W' :=
  ⟨heap_fresh h.t hg, heap_fresh h.h hg, heap_fresh h.y hg, h.b.trans (hg.mono h.b.size)⟩
theorem BoxD.cells {w W : World} {r : Int} {v1 v2 v3 v4 : Value} {i g : Int} (h : BoxD w r v1 v2 v3 v4 i g W) :
    (W.cell? ⟨w.heap.size, 0, none⟩ = some (.int .i64 r) ∧ W.cell? ⟨w.heap.size, 1, none⟩ = some v1 ∧ W.cell? ⟨w.heap.size, 2, none⟩ = some v2 ∧ W.cell? ⟨w.heap.size, 3, none⟩ = some v3 ∧ W.cell? ⟨w.heap.size, 4, none⟩ = some v4 ∧ ∀ j, W.frozen? ⟨w.heap.size, j, none⟩ = false) ∧
    (W.cell? ⟨w.heap.size + 1, 0, none⟩ = some (.int .i64 i) ∧ W.cell? ⟨w.heap.size + 1, 1, none⟩ = some (.int .i64 g) ∧ ∀ j, W.frozen? ⟨w.heap.size + 1, j, none⟩ = false) ∧
    (W.cell? ⟨w.heap.size + 2, 0, none⟩ = some (.int .i64 0) ∧ W.cell? ⟨w.heap.size + 2, 1, none⟩ = some (.slice none 0 0) ∧ W.cell? ⟨w.heap.size + 2, 2, none⟩ = some (.slice none 0 0) ∧ W.cell? ⟨w.heap.size + 2, 3, none⟩ = some (.slice none 0 0) ∧ W.cell? ⟨w.heap.size + 2, 4, none⟩ = some (.slice none 0 0) ∧ ∀ j, W.frozen? ⟨w.heap.size + 2, j, none⟩ = false) := by
  have h1 : W.heap[w.heap.size]? = some (.cells #[.int .i64 r, v1, v2, v3, v4] 31 (0, 0)) := h.t
  have h2 : W.heap[w.heap.size + 1]? = some (.cells #[.int .i64 i, .int .i64 g] 34 (0, 0)) := h.h
  have h3 : W.heap[w.heap.size + 2]? = some (.cells #[.int .i64 0, .slice none 0 0, .slice none 0 0, .slice none 0 0, .slice none 0 0] 31 (0, 0)) := h.y
  exact ⟨Arena.five h1, Arena.pair h2, Arena.five h3⟩
/-- The answer stored. -/
def put5 (W : World) (b : Nat) (a0 a1 a2 a3 a4 : Value) : World := (((((W.setCell ⟨b, 0, none⟩ a0).setCell ⟨b, 1, none⟩ a1).setCell ⟨b, 2, none⟩ a2).setCell ⟨b, 3, none⟩ a3).setCell ⟨b, 4, none⟩ a4)
theorem put5_below {n b : Nat} {w W : World} (h : Below n w W) (hb : n ≤ b) (a0 a1 a2 a3 a4 : Value) : Below n w (put5 W b a0 a1 a2 a3 a4) :=
  ((((h.setCell (p := ⟨b, 0, none⟩) hb a0).setCell (p := ⟨b, 1, none⟩) hb a1).setCell (p := ⟨b, 2, none⟩) hb a2).setCell (p := ⟨b, 3, none⟩) hb a3).setCell (p := ⟨b, 4, none⟩) hb a4
/-- The tree as it was, and a number. -/
theorem stays {w : World} {B : Nat} {r : Int} {v1 v2 v3 v4 : Value} {st : St} {n : Int} (h : Arena.RefAt B v1 v2 v3 v4 (doc st) w) : ∀ W W', Below w.heap.size w W → W' = put5 W (w.heap.size + 2) (.int .i64 r) v1 v2 v3 v4 → IsTre B r v1 v2 v3 v4 (fun t => .tuple #[t, .int .i64 n]) st w (.returned (.tuple #[.agg #[.int .i64 r, v1, v2, v3, v4], .int .i64 n])) W' := fun W W' hB e => by
  subst e
  have hb := put5_below hB (show w.heap.size ≤ w.heap.size + 2 by omega) (.int .i64 r) v1 v2 v3 v4
  exact ⟨_, _, _, _, rfl, h.fresh hb, Arena.Near.refl _ _, hb⟩

theorem refDestroy_none (w : World) (B : Nat) (r : Int) (v1 v2 v3 v4 : Value) (st : St) (i g : Int) (h : Arena.RefAt B v1 v2 v3 v4 (doc st) w) (h1 : st.pl.length ≤ 4096) (hn : st.names i g = false) :
    Calls Try.prog 11 #[.agg #[.int .i64 r, v1, v2, v3, v4], .agg #[.int .i64 i, .int .i64 g]] w (IsTre B r v1 v2 v3 v4 (fun t => .tuple #[t, .int .i64 2]) st w) := by
  have PB := boxD w r v1 v2 v3 v4 i g
  have N := Lib.hid (fun W (hB : BoxD w r v1 v2 v3 v4 i g W) => Arena.refNames W B r v1 v2 v3 v4 (doc st) i g (h.fresh hB.b) (by rw [doc_len]; exact h1))
  rw [doc_names, hn] at N
  have FIN := Lib.hid (stays (r := r) (n := 2) h)
  unfold treO hanO at PB
  clear hn
  obtain ⟨p1, q1, e1⟩ := Arena.owns_shape h.o1
  obtain ⟨p2, q2, e2⟩ := Arena.owns_shape h.o2
  obtain ⟨p3, q3, e3⟩ := Arena.owns_shape h.o3
  obtain ⟨p4, q4, e4⟩ := Arena.owns_shape h.o4
  subst e1 e2 e3 e4
  generalize (doc st).pl.length = ln at *
  generalize (doc st).fr.length = lf at *
  clear h
  go_enter Try.func11, Try.ntmps11
  go_wp2_with fail
  generalize ((w.alloc _).alloc _).alloc _ = W at *
  go_at_call 25; refine (N.out _ PB).mono ?_; rintro e w1 ⟨rfl, hg1⟩
  have P1 := PB.fresh hg1
  obtain ⟨⟨b0, b1, b2, b3, b4, bz⟩, ⟨x0, x1, xz⟩, ⟨y0, y1, y2, y3, y4, yz⟩⟩ := P1.cells
  have F1 := Lib.hid (FIN.out _ _ P1.b rfl)
  unfold put5 at F1
  clear FIN N
  go_wp2_with fail
  refine bodyPost_ret (v := .tuple #[.agg #[.int .i64 r, .slice p1 ln q1, .slice p2 ln q2, .slice p3 ln q3, .slice p4 lf q4], .int .i64 2]) (by simp [results, Try.results11, go_sem, y0, y1, y2, y3, y4]) rfl ?_
  exact F1.out

theorem refDestroy_root (w : World) (B : Nat) (r : Int) (v1 v2 v3 v4 : Value) (st : St) (g : Int) (h : Arena.RefAt B v1 v2 v3 v4 (doc st) w) (h1 : st.pl.length ≤ 4096) (hn : st.names 0 g = true) :
    Calls Try.prog 11 #[.agg #[.int .i64 r, v1, v2, v3, v4], .agg #[.int .i64 0, .int .i64 g]] w (IsTre B r v1 v2 v3 v4 (fun t => .tuple #[t, .int .i64 1]) st w) := by
  have PB := boxD w r v1 v2 v3 v4 0 g
  have N := Lib.hid (fun W (hB : BoxD w r v1 v2 v3 v4 0 g W) => Arena.refNames W B r v1 v2 v3 v4 (doc st) 0 g (h.fresh hB.b) (by rw [doc_len]; exact h1))
  rw [doc_names, hn] at N
  have FIN := Lib.hid (stays (r := r) (n := 1) h)
  unfold treO hanO at PB
  clear hn
  obtain ⟨p1, q1, e1⟩ := Arena.owns_shape h.o1
  obtain ⟨p2, q2, e2⟩ := Arena.owns_shape h.o2
  obtain ⟨p3, q3, e3⟩ := Arena.owns_shape h.o3
  obtain ⟨p4, q4, e4⟩ := Arena.owns_shape h.o4
  subst e1 e2 e3 e4
  generalize (doc st).pl.length = ln at *
  generalize (doc st).fr.length = lf at *
  clear h
  go_enter Try.func11, Try.ntmps11
  go_wp2_with fail
  generalize ((w.alloc _).alloc _).alloc _ = W at *
  go_at_call 25; refine (N.out _ PB).mono ?_; rintro e w1 ⟨rfl, hg1⟩
  have P1 := PB.fresh hg1
  obtain ⟨⟨b0, b1, b2, b3, b4, bz⟩, ⟨x0, x1, xz⟩, ⟨y0, y1, y2, y3, y4, yz⟩⟩ := P1.cells
  have F1 := Lib.hid (FIN.out _ _ P1.b rfl)
  unfold put5 at F1
  clear FIN N
  go_wp2_with fail
  refine bodyPost_ret (v := .tuple #[.agg #[.int .i64 r, .slice p1 ln q1, .slice p2 ln q2, .slice p3 ln q3, .slice p4 lf q4], .int .i64 1]) (by simp [results, Try.results11, go_sem, y0, y1, y2, y3, y4]) rfl ?_
  exact F1.out

set_option maxHeartbeats 4000000 in
theorem refDestroy_busy (w : World) (B : Nat) (r : Int) (v1 v2 v3 v4 : Value) (st : St) (i g : Int) (h : Arena.RefAt B v1 v2 v3 v4 (doc st) w) (h1 : st.pl.length ≤ 4096) (ho : Ok st) (hn : st.names i g = true) (hi : (i == 0) = false) (hk : 0 < (kidsOf st i g).length) :
    Calls Try.prog 11 #[.agg #[.int .i64 r, v1, v2, v3, v4], .agg #[.int .i64 i, .int .i64 g]] w (IsTre B r v1 v2 v3 v4 (fun t => .tuple #[t, .int .i64 6]) st w) := by
  have PB := boxD w r v1 v2 v3 v4 i g
  have N := Lib.hid (fun W (hB : BoxD w r v1 v2 v3 v4 i g W) => Arena.refNames W B r v1 v2 v3 v4 (doc st) i g (h.fresh hB.b) (by rw [doc_len]; exact h1))
  have K := Lib.hid (fun W (hB : BoxD w r v1 v2 v3 v4 i g W) => refKids W B r v1 v2 v3 v4 st i g (h.fresh hB.b) h1 ho)
  rw [doc_names, hn] at N
  have FIN := Lib.hid (stays (r := r) (n := 6) h)
  unfold treO hanO at PB
  have hk' : (0 : Int) < (kidsOf st i g).length := by omega
  unfold kidsOf at hk'
  generalize (hs st.pl st.pl.length).filter (fun q => kid? st q.1 q.2 i g) = KL at *
  clear hn hk
  obtain ⟨p1, q1, e1⟩ := Arena.owns_shape h.o1
  obtain ⟨p2, q2, e2⟩ := Arena.owns_shape h.o2
  obtain ⟨p3, q3, e3⟩ := Arena.owns_shape h.o3
  obtain ⟨p4, q4, e4⟩ := Arena.owns_shape h.o4
  subst e1 e2 e3 e4
  generalize (doc st).pl.length = ln at *
  generalize (doc st).fr.length = lf at *
  clear h
  go_enter Try.func11, Try.ntmps11
  go_wp2_with fail
  generalize ((w.alloc _).alloc _).alloc _ = W at *
  go_at_call 25; refine (N.out _ PB).mono ?_; rintro e w1 ⟨rfl, hg1⟩
  have P1 := PB.fresh hg1
  obtain ⟨⟨b0, b1, b2, b3, b4, bz⟩, ⟨x0, x1, xz⟩, _⟩ := P1.cells
  go_wp2_with fail
  go_at_call 31; refine (K.out _ P1).mono ?_; rintro e w2 ⟨vk, rfl, hA, hg2⟩
  obtain ⟨ao, ca, rfl⟩ := Arena.owns_shape hA
  have P2 := P1.fresh hg2
  clear b0 b1 b2 b3 b4 bz x0 x1 xz hA
  obtain ⟨⟨b0, b1, b2, b3, b4, bz⟩, ⟨x0, x1, xz⟩, ⟨y0, y1, y2, y3, y4, yz⟩⟩ := P2.cells
  have F1 := Lib.hid (FIN.out _ _ P2.b rfl)
  unfold put5 at F1
  clear FIN N K P1 PB hg1 hg2
  go_wp2_with fail
  refine bodyPost_ret (v := .tuple #[.agg #[.int .i64 r, .slice p1 ln q1, .slice p2 ln q2, .slice p3 ln q3, .slice p4 lf q4], .int .i64 6]) (by simp [results, Try.results11, go_sem, y0, y1, y2, y3, y4]) rfl ?_
  exact F1.out

set_option maxHeartbeats 4000000 in
theorem refDestroy_some (w : World) (B : Nat) (N0 : Int) (hN0 : N0 ≤ 1000000000) (v1 v2 v3 v4 : Value) (st : St) (i g : Int) (h : Arena.RefAt B v1 v2 v3 v4 (doc st) w) (hB : B ≤ w.heap.size) (hS : Snd N0 st) (hn : st.names i g = true) (hi : (i == 0) = false) (hk : kidsOf st i g = []) :
    Calls Try.prog 11 #[.agg #[.int .i64 st.room, v1, v2, v3, v4], .agg #[.int .i64 i, .int .i64 g]] w (IsTre B st.room v1 v2 v3 v4 (fun t => .tuple #[t, .int .i64 0]) (st.free i g) w) := by
  have h1 := hS.inv.l1
  have PB := boxD w st.room v1 v2 v3 v4 i g
  have N := Lib.hid (fun W (hB : BoxD w st.room v1 v2 v3 v4 i g W) => Arena.refNames W B st.room v1 v2 v3 v4 (doc st) i g (h.fresh hB.b) (by rw [doc_len]; exact h1))
  have K := Lib.hid (fun W (hB : BoxD w st.room v1 v2 v3 v4 i g W) => refKids W B st.room v1 v2 v3 v4 st i g (h.fresh hB.b) h1 hS.ok)
  rw [doc_names, hn] at N
  unfold kidsOf at hk
  rw [hk] at K
  have P := Lib.hid (fun W (hW : BoxD w st.room v1 v2 v3 v4 i g W) => Arena.refFree (w := W) (st := doc st) i g (h.fresh hW.b) (Nat.le_trans hB hW.b.size) (doc_inv hS.inv) hN0)
  rw [← doc_free (by simpa using hi) g] at P
  have hlow := h.low
  have hr : (doc st).room = st.room := rfl
  rw [hr] at P
  clear hr
  generalize st.free i g = sp at *
  generalize (doc st).thing i g = th at *
  generalize (doc st).err i g = er at *
  generalize st.room = r at *
  have FIN : Hid (∀ W w3 u1 u2 u3 u4 W', BoxD w r v1 v2 v3 v4 i g W → Arena.RefAt B u1 u2 u3 u4 (doc sp) w3 → Arena.Near [u1, u2, u3, u4] [v1, v2, v3, v4] W.heap.size → Below W.heap.size W w3 → w.heap.size + 2 < W.heap.size →
      W' = put5 (w3.alloc (.cells #[.int .i64 r, u1, u2, u3, u4] 29)) (w.heap.size + 2) (.int .i64 r) u1 u2 u3 u4 →
      IsTre B r v1 v2 v3 v4 (fun t => .tuple #[t, .int .i64 0]) sp w (.returned (.tuple #[.agg #[.int .i64 r, u1, u2, u3, u4], .int .i64 0])) W') := fun W w3 u1 u2 u3 u4 W' hW hR hN hg hsz e => by
    subst e
    have b1 := alloc1 w3 (.cells #[.int .i64 r, u1, u2, u3, u4] 29)
    have b2 := hW.b.trans ((hg.trans (b1.mono hg.size)).mono hW.b.size)
    exact ⟨_, _, _, _, rfl, (hR.fresh b1).past hN hlow (by omega) (by omega) (Arena.set5_grown _ (w.heap.size + 2) (.int .i64 r) u1 u2 u3 u4), hN.mono hW.b.size, put5_below b2 (by omega) _ _ _ _ _⟩
  unfold treO hanO at PB
  clear hS hlow h1 hB hn hk
  obtain ⟨p1, q1, e1⟩ := Arena.owns_shape h.o1
  obtain ⟨p2, q2, e2⟩ := Arena.owns_shape h.o2
  obtain ⟨p3, q3, e3⟩ := Arena.owns_shape h.o3
  obtain ⟨p4, q4, e4⟩ := Arena.owns_shape h.o4
  subst e1 e2 e3 e4
  generalize (doc st).pl.length = dn at *
  generalize (doc st).fr.length = df at *
  clear h
  go_enter Try.func11, Try.ntmps11
  go_wp2_with fail
  have hsz : w.heap.size + 2 < (((w.alloc (.cells #[.int .i64 r, .slice p1 dn q1, .slice p2 dn q2, .slice p3 dn q3, .slice p4 df q4] 31 (0, 0))).alloc (.cells #[.int .i64 i, .int .i64 g] 34 (0, 0))).alloc (.cells #[.int .i64 0, .slice none 0 0, .slice none 0 0, .slice none 0 0, .slice none 0 0] 31 (0, 0))).heap.size := by simp
  generalize ((w.alloc _).alloc _).alloc _ = W at *
  go_at_call 25; refine (N.out _ PB).mono ?_; rintro e w1 ⟨rfl, hg1⟩
  have P1 := PB.fresh hg1
  obtain ⟨⟨b0, b1, b2, b3, b4, bz⟩, ⟨x0, x1, xz⟩, _⟩ := P1.cells
  go_wp2_with fail
  go_at_call 31; refine (K.out _ P1).mono ?_; rintro e w2 ⟨vk, rfl, hA, hg2⟩
  obtain ⟨ao, ca, rfl⟩ := Arena.owns_shape hA
  have P2 := P1.fresh hg2
  clear b0 b1 b2 b3 b4 bz x0 x1 xz hA
  obtain ⟨⟨b0, b1, b2, b3, b4, bz⟩, ⟨x0, x1, xz⟩, _⟩ := P2.cells
  go_wp2_with fail
  go_at_call 32; refine (P.out _ P2).mono ?_; rintro e w3 ⟨u1, u2, u3, u4, rfl, hR, hN, hg3⟩
  have hsz2 : w.heap.size + 2 < w2.heap.size := by have := hg1.size; have := hg2.size; omega
  obtain ⟨s1, c1, e1⟩ := Arena.owns_shape hR.o1
  obtain ⟨s2, c2, e2⟩ := Arena.owns_shape hR.o2
  obtain ⟨s3, c3, e3⟩ := Arena.owns_shape hR.o3
  obtain ⟨s4, c4, e4⟩ := Arena.owns_shape hR.o4
  subst e1 e2 e3 e4
  have ek1 : w3.heap.size ≠ w.heap.size + 2 := by have := hg3.size; omega
  have F1 := Lib.hid (fun W' => FIN.out w2 w3 _ _ _ _ W' P2 hR hN hg3 hsz2)
  have P4 := (P2.fresh hg3).fresh (alloc1 w3 (.cells #[.int .i64 r, .slice s1 (doc sp).pl.length c1, .slice s2 (doc sp).pl.length c2, .slice s3 (doc sp).pl.length c3, .slice s4 (doc sp).fr.length c4] 29))
  generalize (doc sp).pl.length = mn at *
  generalize (doc sp).fr.length = mf at *
  have a7 := Arena.five (heap_alloc_new w3 (.cells #[.int .i64 r, .slice s1 mn c1, .slice s2 mn c2, .slice s3 mn c3, .slice s4 mf c4] 29))
  obtain ⟨_, _, ⟨y0, y1, y2, y3, y4, yz⟩⟩ := P4.cells
  obtain ⟨k0, k1, k2, k3, k4, kz⟩ := a7
  unfold put5 at F1
  clear FIN N K P PB P1 P2 P4 hR hN hg1 hg2 hg3 hsz hsz2 b0 b1 b2 b3 b4 bz x0 x1 xz
  go_wp2_with fail
  refine bodyPost_ret (v := .tuple #[.agg #[.int .i64 r, .slice s1 mn c1, .slice s2 mn c2, .slice s3 mn c3, .slice s4 mf c4], .int .i64 0]) (by simp [results, Try.results11, go_sem, y0, y1, y2, y3, y4]) rfl ?_
  exact F1.out _ rfl
end Go.Proofs.Ytanahddlnchioaa.Gt
