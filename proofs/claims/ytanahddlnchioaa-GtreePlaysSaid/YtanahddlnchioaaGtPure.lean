/- A tree by itself: what a new group leaves as it was. Conditions: none. -/
import Derived.Test.YtanahddlnchioaaGtNew
namespace Go.Proofs.Ytanahddlnchioaa.Gt
open Go.ChangeShapes Go.WideShapes Go.ChangeAt Go.RowKit Hp
set_option linter.unusedVariables false
set_option linter.unusedSimpArgs false

/-- What was named is named, and is within the same one. -/
def Keeps (st st' : St) : Prop := ∀ i g, st.names i g = true → st'.names i g = true ∧ st'.thing i g = st.thing i g ∧ st'.tgen i g = st.tgen i g
/-- A new group pi, pg within x, y. -/
structure Grew (st st' : St) (x y pi pg : Int) : Prop where
  keeps : Keeps st st'
  named : st'.names pi pg = true
  thing : st'.thing pi pg = x ∧ st'.tgen pi pg = y
  fresh : st.names pi pg = false
  only : ∀ i g, st'.names i g = true → st.names i g = true ∨ (i = pi ∧ g = pg)
theorem names_at {st : St} {k : Nat} {q : Pl} (h : st.pl[k]? = some q) (hf : q.full = true) : st.names k q.gen = true ∧ st.thing k q.gen = q.thing ∧ st.tgen k q.gen = q.tgen := by
  have hn : st.names k q.gen = true := by simp [St.names, St.at, h, hf]
  exact ⟨hn, by simp [St.thing, hn, St.at, h], by simp [St.tgen, hn, St.at, h]⟩
theorem grew_of {st st' : St} {x y : Int} {k : Nat} {gen : Int} (hk : st'.pl[k]? = some ⟨x, y, true, gen⟩) (hold : ∀ q, st.pl[k]? = some q → q.full = false) (hsame : ∀ j, j ≠ k → st'.pl[j]? = st.pl[j]?) : Grew st st' x y k gen := by
  have hn := names_at hk rfl
  refine ⟨fun i g h => ?_, hn.1, ⟨hn.2.1, hn.2.2⟩, ?_, fun i g h => ?_⟩
  · obtain ⟨j, q, rfl, hq, hf, rfl⟩ := St.named h
    have hj : j ≠ k := fun e => by subst e; rw [hold q hq] at hf; cases hf
    have h1 := names_at hq hf
    have h2 := names_at ((hsame j hj).trans hq) hf
    exact ⟨h2.1, h2.2.1.trans h1.2.1.symm, h2.2.2.trans h1.2.2.symm⟩
  · cases h : st.names k gen
    · rfl
    · obtain ⟨j, q, e, hq, hf, _⟩ := St.named h
      have : j = k := by omega
      subst this
      rw [hold q hq] at hf; cases hf
  · obtain ⟨j, q, rfl, hq, hf, rfl⟩ := St.named h
    by_cases hj : j = k
    · subst hj
      rw [hk] at hq; cases hq
      exact .inr ⟨rfl, rfl⟩
    · exact .inl (names_at ((hsame j hj).symm.trans hq) hf).1
theorem put_grew {N : Int} {st : St} (h : Inv N st) (x y : Int) : (st.put x y = ⟨st, 0, 0, 3⟩) ∨ ((st.put x y).n = 0 ∧ Grew st (st.put x y).st x y (st.put x y).i (st.put x y).g) := by
  rcases h.put x y with ⟨_, _, e⟩ | ⟨hf, hl, e⟩ | ⟨l, i, q, hf, hq, hqf, e⟩
  · exact .inl e
  · rw [e]
    refine .inr ⟨rfl, grew_of (k := st.pl.length) (by simp) (fun q hq => by simp at hq) (fun j hj => ?_)⟩
    by_cases h1 : j < st.pl.length
    · exact List.getElem?_append_left h1
    · rw [List.getElem?_eq_none (by simp; omega), List.getElem?_eq_none (by omega)]
  · rw [e]
    have hi := (List.getElem?_eq_some_iff.1 hq).1
    refine .inr ⟨rfl, grew_of (k := i) (by simp [hi]) (fun q' hq' => by rw [hq] at hq'; cases hq'; exact hqf) (fun j hj => by simp only; rw [List.getElem?_set_ne (fun e => hj e.symm)])⟩
theorem Ups.keeps {st st' : St} (hk : Keeps st st') {i g : Int} {l : List (Int × Int)} (h : Ups st i g l) : Ups st' i g l := by
  induction h with
  | root h => exact .root (hk _ _ h).1
  | @step i g l hn hr hu ih =>
    obtain ⟨h1, h2, h3⟩ := hk _ _ hn
    have := Ups.step (st := st') h1 hr (by rw [h2, h3]; exact ih)
    rwa [h2, h3] at this
theorem Grew.ups {st st' : St} {x y pi pg : Int} (h : Grew st st' x y pi pg) (h0 : st.names 0 0 = true) {l : List (Int × Int)} (hu : Ups st x y l) : Ups st' pi pg ((x, y) :: l) := by
  have hr : isRoot pi pg = false := by
    cases hr : isRoot pi pg
    · rfl
    · obtain ⟨rfl, rfl⟩ := isRoot_eq hr
      rw [h.fresh] at h0; cases h0
  have := Ups.step h.named hr (l := l) (by rw [h.thing.1, h.thing.2]; exact hu.keeps h.keeps)
  rwa [h.thing.1, h.thing.2] at this
theorem Grew.ok {st st' : St} {x y pi pg : Int} (h : Grew st st' x y pi pg) (ho : Ok st) {l : List (Int × Int)} (hu : Ups st x y l) (hl : l.length < 8) : Ok st' := by
  refine ⟨(h.keeps _ _ ho.root).1, fun i g hn => ?_⟩
  rcases h.only i g hn with h1 | ⟨rfl, rfl⟩
  · obtain ⟨l', hu', hl'⟩ := ho.ways i g h1
    exact ⟨l', hu'.keeps h.keeps, hl'⟩
  · exact ⟨_, h.ups ho.root hu, by simp; omega⟩

/-- What Create does, in whatever case. -/
def Made (st st' : St) (i g pi pg n : Int) : Prop := (st' = st ∧ n ≠ 0) ∨ (n = 0 ∧ st.names i g = true ∧ Grew st st' i g pi pg)
def IsMade (N : Int) (st : St) (i g : Int) (tb b : Nat) (O : Nat → Prop) (w : World) (e : Ending) (w' : World) : Prop :=
  ∃ st' pi pg n, e = .returned (.tuple #[.agg #[.int .i64 pi, .int .i64 pg], .int .i64 n]) ∧ Tre w' tb b O st' ∧ Same O w w' ∧ Inv N st' ∧ Ok st' ∧ Made st st' i g pi pg n
theorem create (w : World) (tb b : Nat) (O : Nat → Prop) (N : Int) (hN : 0 ≤ N) (st : St) (i g : Int) (h : Tre w tb b O st) (hI : Inv N st) (ho : Ok st) (hO : ∀ k, O k → k < w.heap.size) :
    Calls Try.prog 8 #[.pointer (some ⟨tb, 0, none⟩), .agg #[.int .i64 i, .int .i64 g]] w (IsMade N st i g tb b O w) := by
  cases hn : st.names i g
  · exact (create_none w tb b O st i g h hI.l1 hn).mono fun e w' ⟨he, hg⟩ => ⟨st, 0, 0, 2, he, h.fresh hg, Same.of hg hO, hI, ho, .inl ⟨rfl, by omega⟩⟩
  obtain ⟨l, hu, hl⟩ := ho.ways i g hn
  by_cases h8 : l.length = 8
  · exact (create_deep w tb b O st i g l h hI.l1 hu h8).mono fun e w' ⟨he, hg⟩ => ⟨st, 0, 0, 5, he, h.fresh hg, Same.of hg hO, hI, ho, .inl ⟨rfl, by omega⟩⟩
  refine (create_some w tb b O N st i g l h hI hO hu (by omega)).mono fun e w' ⟨he, ht, hs⟩ => ?_
  refine ⟨_, _, _, _, he, ht, hs, hI.afterPut hN i g, ?_⟩
  rcases put_grew hI i g with e' | ⟨e0, hgr⟩
  · rw [e']; exact ⟨ho, .inl ⟨rfl, by simp⟩⟩
  · exact ⟨hgr.ok ho hu (by omega), .inr ⟨e0, hn, hgr⟩⟩
end Go.Proofs.Ytanahddlnchioaa.Gt
