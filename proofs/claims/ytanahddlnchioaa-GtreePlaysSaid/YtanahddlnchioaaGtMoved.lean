/- A tree in which one group was moved: names, ways up, those below. Conditions: none. -/
import Derived.Test.YtanahddlnchioaaGtMove
import Derived.Test.YtanahddlnchioaaGtOrder
import Derived.Test.YtanahddlnchioaaGtPure
namespace Go.Proofs.Ytanahddlnchioaa.Gt
open Go.ChangeShapes Go.WideShapes Go.ChangeAt Go.RowKit Hp
set_option linter.unusedVariables false
set_option linter.unusedSimpArgs false

/-- st' is st with i, g within x, y. -/
structure Moved (st st' : St) (i g x y : Int) : Prop where
  names : ∀ a b, st'.names a b = st.names a b
  at' : st'.thing i g = x ∧ st'.tgen i g = y
  other : ∀ a b, st.names a b = true → ¬ (a = i ∧ b = g) → st'.thing a b = st.thing a b ∧ st'.tgen a b = st.tgen a b
  len : st'.pl.length = st.pl.length
  hs : ∀ n, hs st'.pl n = hs st.pl n
theorem hs_congr {l m : List Pl} (h : ∀ j : Nat, (l[j]?).map (fun (q : Pl) => (q.full, q.gen)) = (m[j]?).map (fun (q : Pl) => (q.full, q.gen))) (n : Nat) : hs l n = hs m n := by
  induction n with
  | zero => rfl
  | succ n ih =>
    have hn := h n
    cases h1 : l[n]? with
    | none =>
      cases h2 : m[n]? with
      | none => simp only [hs, h1, h2, ih]
      | some q => rw [h1, h2] at hn; simp at hn
    | some p =>
      cases h2 : m[n]? with
      | none => rw [h1, h2] at hn; simp at hn
      | some q =>
        rw [h1, h2] at hn
        simp at hn
        obtain ⟨e1, e2⟩ := hn
        cases hf : q.full
        · rw [hs_free h1 (by rw [e1, hf]), hs_free h2 hf, ih]
        · rw [hs_full h1 (by rw [e1, hf]), hs_full h2 hf, ih, e2]
theorem set_at {st : St} {k : Nat} {q : Pl} (hq : st.pl[k]? = some q) (hf : q.full = true) (x y : Int) : st.set k q.gen x y = { st with pl := st.pl.set k ⟨x, y, true, q.gen⟩ } := by
  simp [St.set, (names_at hq hf).1]
theorem moved {st : St} {i g : Int} (hn : st.names i g = true) (x y : Int) : Moved st (st.set i g x y) i g x y := by
  obtain ⟨k, q, rfl, hq, hf, rfl⟩ := St.named hn
  rw [set_at hq hf]
  have hk := (List.getElem?_eq_some_iff.1 hq).1
  have key : ∀ j, ((st.pl.set k ⟨x, y, true, q.gen⟩)[j]?).map (fun (q : Pl) => (q.full, q.gen)) = (st.pl[j]?).map (fun (q : Pl) => (q.full, q.gen)) := fun j => by
    by_cases e : j = k
    · subst e; rw [List.getElem?_set_self hk, hq]; simp [hf]
    · rw [List.getElem?_set_ne (fun h => e h.symm)]
  have hat : (st.pl.set k ⟨x, y, true, q.gen⟩)[k]? = some ⟨x, y, true, q.gen⟩ := List.getElem?_set_self hk
  have nm : ∀ a b, St.names { st with pl := st.pl.set k ⟨x, y, true, q.gen⟩ } a b = st.names a b := fun a b => by
    cases h : st.names a b
    · cases h' : St.names { st with pl := st.pl.set k ⟨x, y, true, q.gen⟩ } a b
      · rfl
      · obtain ⟨j, p, rfl, hp, hpf, rfl⟩ := St.named h'
        have hj := key j
        rw [show (st.pl.set k ⟨x, y, true, q.gen⟩)[j]? = some p from hp] at hj
        cases h2 : st.pl[j]? with
        | none => rw [h2] at hj; simp at hj
        | some r =>
          rw [h2] at hj
          simp at hj
          have := (names_at h2 (by rw [← hj.1, hpf])).1
          rw [← hj.2, h] at this; cases this
    · obtain ⟨j, p, rfl, hp, hpf, rfl⟩ := St.named h
      have hj := key j
      rw [hp] at hj
      cases h2 : (st.pl.set k ⟨x, y, true, q.gen⟩)[j]? with
      | none => rw [h2] at hj; simp at hj
      | some r =>
        rw [h2] at hj
        simp at hj
        have := (names_at (st := { st with pl := st.pl.set k ⟨x, y, true, q.gen⟩ }) h2 (by rw [hj.1, hpf])).1
        rw [hj.2] at this
        exact this
  refine ⟨nm, ?_, ?_, by simp, fun n => hs_congr key n⟩
  · have := names_at (st := { st with pl := st.pl.set k ⟨x, y, true, q.gen⟩ }) hat rfl
    exact ⟨this.2.1, this.2.2⟩
  · intro a b h hne
    obtain ⟨j, p, rfl, hp, hpf, rfl⟩ := St.named h
    have hjk : j ≠ k := fun e => by subst e; rw [hq] at hp; cases hp; exact hne ⟨rfl, rfl⟩
    have h1 := names_at hp hpf
    have h2 := names_at (st := { st with pl := st.pl.set k ⟨x, y, true, q.gen⟩ }) (show (st.pl.set k ⟨x, y, true, q.gen⟩)[j]? = some p by rw [List.getElem?_set_ne (fun h => hjk h.symm)]; exact hp) hpf
    exact ⟨h2.2.1.trans h1.2.1.symm, h2.2.2.trans h1.2.2.symm⟩
/-- Moved back it is as it was. -/
theorem set_back {st : St} {i g : Int} (hn : st.names i g = true) (x y : Int) : (st.set i g x y).set i g (st.thing i g) (st.tgen i g) = st := by
  obtain ⟨k, q, rfl, hq, hf, rfl⟩ := St.named hn
  have hk := (List.getElem?_eq_some_iff.1 hq).1
  have h1 := names_at hq hf
  rw [h1.2.1, h1.2.2, set_at hq hf]
  have hat : (st.pl.set k ⟨x, y, true, q.gen⟩)[k]? = some ⟨x, y, true, q.gen⟩ := List.getElem?_set_self hk
  have := set_at (st := { st with pl := st.pl.set k ⟨x, y, true, q.gen⟩ }) hat rfl q.thing q.tgen
  rw [show (⟨x, y, true, q.gen⟩ : Pl).gen = q.gen from rfl] at this
  rw [this]
  have e : (⟨q.thing, q.tgen, true, q.gen⟩ : Pl) = q := by cases q; simp at hf; subst hf; rfl
  simp only [e, List.set_set]
  have e2 : st.pl.set k q = st.pl := by
    rw [List.getElem?_eq_getElem hk] at hq
    have := Option.some.inj hq
    rw [← this]; exact List.set_getElem_self hk
  rw [e2]

theorem Ups.stepTo {st : St} {i g p q : Int} {l : List (Int × Int)} (hn : st.names i g = true) (hr : isRoot i g = false) (h1 : st.thing i g = p) (h2 : st.tgen i g = q) (h : Ups st p q l) : Ups st i g ((p, q) :: l) := by
  subst h1 h2; exact .step hn hr h
section
variable {st st' : St} {i g x y : Int}
theorem Moved.away (h : Moved st st' i g x y) {a b : Int} {l : List (Int × Int)} (hu : Ups st a b l) (hn : (i, g) ∉ (a, b) :: l) : Ups st' a b l := by
  induction hu with
  | root h0 => exact .root ((h.names 0 0).trans h0)
  | @step a b l hnm hr hu ih =>
    have hne : ¬ (a = i ∧ b = g) := fun e => hn (by obtain ⟨rfl, rfl⟩ := e; simp)
    obtain ⟨e1, e2⟩ := h.other a b hnm hne
    exact Ups.stepTo ((h.names a b).trans hnm) hr e1 e2 (ih (fun hm => hn (List.mem_cons_of_mem _ hm)))
theorem Moved.along (h : Moved st st' i g x y) (hr : isRoot i g = false) {lx li : List (Int × Int)} (hx : Ups st' x y lx) (hi : Ups st i g li) {a b : Int} {l : List (Int × Int)} (hu : Ups st a b l) (hm : (i, g) ∈ (a, b) :: l) :
    ∃ n l', Ups st' a b l' ∧ l.length = n + li.length ∧ l'.length = n + 1 + lx.length ∧ (i, g) ∈ (a, b) :: l' := by
  induction hu with
  | root h0 =>
    simp at hm
    obtain ⟨rfl, rfl⟩ := hm
    rw [isRoot_zero] at hr; cases hr
  | @step a b l hnm hra hu ih =>
    by_cases e : a = i ∧ b = g
    · obtain ⟨rfl, rfl⟩ := e
      have e1 := (Ups.step hnm hra hu).one hi
      exact ⟨0, _, Ups.stepTo ((h.names a b).trans hnm) hra h.at'.1 h.at'.2 hx, by rw [← e1]; simp, by simp; omega, by simp⟩
    · obtain ⟨e1, e2⟩ := h.other a b hnm e
      have hm' : (i, g) ∈ (st.thing a b, st.tgen a b) :: l := by
        rcases List.mem_cons.1 hm with e' | hm
        · cases e'; exact absurd ⟨rfl, rfl⟩ e
        · exact hm
      obtain ⟨n, l', h1, h2, h3, h4⟩ := ih hm'
      exact ⟨n + 1, _, Ups.stepTo ((h.names a b).trans hnm) hra e1 e2 h1, by simp; omega, by simp; omega, List.mem_cons_of_mem _ h4⟩
theorem below_mem {a b : Int} (ha : st.names a b = true) (hn : st.names i g = true) (hin : isIn a b i g (upsOf st a b) = true) : (a, b) ∈ belowOf st i g :=
  List.mem_filter.2 ⟨named_hs ha, by simp [under?, ha, hn, hin]⟩
theorem mem_below {a b : Int} (h : (a, b) ∈ belowOf st i g) : st.names a b = true ∧ isIn a b i g (upsOf st a b) = true := by
  obtain ⟨_, h2⟩ := List.mem_filter.1 h
  simp [under?] at h2
  exact ⟨h2.1, h2.2.2⟩
theorem reach_bd (ho : Ok st) : 0 ≤ reachOf st i g ∧ reachOf st i g ≤ 8 := by
  unfold reachOf mxr
  refine ⟨mx_ge.1, mx_le (by omega) fun q hq => ?_⟩
  rw [List.mem_reverse, List.take_length] at hq
  have := (ho.ups (mem_below (a := q.1) (b := q.2) hq).1).2
  omega
theorem reach_ge {a b : Int} (ha : st.names a b = true) (hn : st.names i g = true) (hin : isIn a b i g (upsOf st a b) = true) : ((upsOf st a b).length : Int) - (upsOf st i g).length ≤ reachOf st i g := by
  unfold reachOf mxr
  exact mx_ge.2 (a, b) (by rw [List.mem_reverse, List.take_length]; exact below_mem ha hn hin)
theorem Moved.ok (h : Moved st st' i g x y) (ho : Ok st) (hn : st.names i g = true) (hr : isRoot i g = false) (hx : st.names x y = true) (hin : isIn x y i g (upsOf st x y) = false) (hd : ((upsOf st x y).length : Int) + 1 + reachOf st i g ≤ 8) : Ok st' := by
  obtain ⟨hxu, _⟩ := ho.ups hx
  have hxu' := h.away hxu (of_decide_eq_false hin)
  obtain ⟨hiu, _⟩ := ho.ups hn
  refine ⟨(h.names 0 0).trans ho.root, fun a b ha => ?_⟩
  rw [h.names] at ha
  obtain ⟨hau, hal⟩ := ho.ups ha
  by_cases hm : (i, g) ∈ (a, b) :: upsOf st a b
  · obtain ⟨n, l', h1, h2, h3, _⟩ := h.along hr hxu' hiu hau hm
    have := reach_ge ha hn (decide_eq_true hm)
    exact ⟨l', h1, by omega⟩
  · exact ⟨_, h.away hau hm, hal⟩
theorem ups_of (ho : Ok st) {a b : Int} {l : List (Int × Int)} (hu : Ups st a b l) : upsOf st a b = l := (ho.ups hu.named).1.one hu
theorem Moved.below (h : Moved st st' i g x y) (ho : Ok st) (ho' : Ok st') (hn : st.names i g = true) (hr : isRoot i g = false) (hx : st.names x y = true) (hin : isIn x y i g (upsOf st x y) = false) : belowOf st' i g = belowOf st i g := by
  obtain ⟨hxu, _⟩ := ho.ups hx
  have hxu' := h.away hxu (of_decide_eq_false hin)
  obtain ⟨hiu, _⟩ := ho.ups hn
  unfold belowOf
  rw [h.len, h.hs]
  refine List.filter_congr fun q hq => ?_
  have hq' : st.names q.1 q.2 = true := hs_named hq
  obtain ⟨hau, hal⟩ := ho.ups hq'
  unfold under?
  rw [h.names, h.names, hq', hn, Bool.true_and, Bool.true_and, Bool.true_and, Bool.true_and]
  by_cases hm : (i, g) ∈ (q.1, q.2) :: upsOf st q.1 q.2
  · obtain ⟨n, l', h1, h2, h3, h4⟩ := h.along hr hxu' hiu hau hm
    rw [ups_of ho' h1]
    exact (decide_eq_true h4).trans (decide_eq_true hm).symm
  · rw [ups_of ho' (h.away hau hm)]
/-- What Move asks on the way back. -/
theorem Moved.back (h : Moved st st' i g x y) (ho : Ok st) (ho' : Ok st') (hn : st.names i g = true) (hr : isRoot i g = false) (hx : st.names x y = true) (hin : isIn x y i g (upsOf st x y) = false) :
    st'.names (st.thing i g) (st.tgen i g) = true ∧ isIn (st.thing i g) (st.tgen i g) i g (upsOf st' (st.thing i g) (st.tgen i g)) = false ∧ ((upsOf st' (st.thing i g) (st.tgen i g)).length : Int) + 1 + reachOf st' i g ≤ 8 := by
  obtain ⟨hxu, _⟩ := ho.ups hx
  have hxu' := h.away hxu (of_decide_eq_false hin)
  obtain ⟨hiu, hil⟩ := ho.ups hn
  generalize hli : upsOf st i g = li at *
  cases li with
  | nil => obtain ⟨rfl, rfl, _⟩ := hiu.nil; rw [isRoot_zero] at hr; cases hr
  | cons p lt =>
    obtain ⟨_, _, rfl, hup⟩ := hiu.cons
    have hne : (i, g) ∉ (st.thing i g, st.tgen i g) :: lt := fun hm => by
      obtain ⟨m, m1, _, m3⟩ := hup.rest hm
      have e := m1.one hiu
      rcases m3 with e' | m3
      · have e1 : st.thing i g = i := (congrArg Prod.fst e').symm
        have e2 : st.tgen i g = g := (congrArg Prod.snd e').symm
        have hup' : Ups st i g lt := by rw [e1, e2] at hup; exact hup
        have := congrArg List.length (hup'.one hiu)
        simp at this
      · rw [e] at m3; simp at m3; omega
    have hup' := h.away hup hne
    have eb := ups_of ho' hup'
    have ei : upsOf st' i g = (x, y) :: upsOf st x y := ups_of ho' (Ups.stepTo ((h.names i g).trans hn) hr h.at'.1 h.at'.2 hxu')
    refine ⟨hup'.named, by rw [eb]; exact decide_eq_false hne, ?_⟩
    rw [eb]
    have hb := h.below ho ho' hn hr hx hin
    have key : reachOf st' i g ≤ 8 - ((lt.length : Int) + 1) := by
      unfold reachOf mxr
      refine mx_le (by simp at hil; omega) fun q hq => ?_
      rw [List.mem_reverse, List.take_length, hb] at hq
      obtain ⟨ha, hq2⟩ := mem_below (a := q.1) (b := q.2) hq
      obtain ⟨hau, hal⟩ := ho.ups ha
      obtain ⟨n, l', h1, h2, h3, _⟩ := h.along hr hxu' hiu hau (of_decide_eq_true hq2)
      rw [ups_of ho' h1, ei]
      simp at h2 ⊢
      omega
    omega
end
end Go.Proofs.Ytanahddlnchioaa.Gt
