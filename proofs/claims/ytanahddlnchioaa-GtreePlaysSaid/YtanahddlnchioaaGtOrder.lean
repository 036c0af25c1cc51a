/- To be below is an order: of the way up, as a list. Conditions: none. -/
import Derived.Test.YtanahddlnchioaaGtThose
namespace Go.Proofs.Ytanahddlnchioaa.Gt
open Go.ChangeShapes Go.WideShapes Go.ChangeAt Go.RowKit Hp
set_option linter.unusedVariables false
set_option linter.unusedSimpArgs false

theorem Ups.one {st : St} {i g : Int} {l m : List (Int × Int)} (h : Ups st i g l) (k : Ups st i g m) : l = m := by
  exact (h.eq (Nat.le_max_left l.length m.length)).symm.trans (k.eq (Nat.le_max_right l.length m.length))
theorem Ups.root_in {st : St} {i g : Int} {l : List (Int × Int)} (h : Ups st i g l) : (0, 0) ∈ (i, g) :: l := by
  induction h with
  | root h => simp
  | step hn hr hu ih => exact List.mem_cons_of_mem _ ih
/-- Who is on the way up has the rest of it as its own. -/
theorem Ups.rest {st : St} {i g : Int} {l : List (Int × Int)} (h : Ups st i g l) {j k : Int} (hm : (j, k) ∈ (i, g) :: l) : ∃ m, Ups st j k m ∧ (∀ q ∈ (j, k) :: m, q ∈ (i, g) :: l) ∧ ((j, k) = (i, g) ∨ m.length < l.length) := by
  induction h with
  | root h =>
    simp at hm
    obtain ⟨rfl, rfl⟩ := hm
    exact ⟨[], .root h, fun q hq => hq, .inl rfl⟩
  | @step i g l hn hr hu ih =>
    rcases List.mem_cons.1 hm with e | hm
    · cases e
      exact ⟨_, .step hn hr hu, fun q hq => hq, .inl rfl⟩
    · obtain ⟨m, h1, h2, h3⟩ := ih hm
      refine ⟨m, h1, fun q hq => List.mem_cons_of_mem _ (h2 q hq), .inr ?_⟩
      rcases h3 with e | h3
      · cases e
        rw [h1.one hu]; simp
      · simp; omega
theorem isIn_self (i g : Int) (l : List (Int × Int)) : isIn i g i g l = true := by simp [isIn]
theorem isIn_root {st : St} {i g : Int} {l : List (Int × Int)} (h : Ups st i g l) : isIn i g 0 0 l = true := by simpa [isIn] using h.root_in
theorem isIn_anti {st : St} {i g j k : Int} {l m : List (Int × Int)} (h : Ups st i g l) (h' : Ups st j k m) (h1 : isIn i g j k l = true) (h2 : isIn j k i g m = true) : i = j ∧ g = k := by
  obtain ⟨m', a1, _, a3⟩ := h.rest (of_decide_eq_true h1)
  obtain ⟨l', b1, _, b3⟩ := h'.rest (of_decide_eq_true h2)
  rw [a1.one h'] at a3
  rw [b1.one h] at b3
  rcases a3 with e | a3
  · cases e; exact ⟨rfl, rfl⟩
  · rcases b3 with e | b3
    · cases e; exact ⟨rfl, rfl⟩
    · omega
theorem isIn_trans {st : St} {i g j k x y : Int} {l m : List (Int × Int)} (h : Ups st i g l) (h' : Ups st j k m) (h1 : isIn i g j k l = true) (h2 : isIn j k x y m = true) : isIn i g x y l = true := by
  obtain ⟨m', a1, a2, _⟩ := h.rest (of_decide_eq_true h1)
  rw [a1.one h'] at a2
  exact decide_eq_true (a2 _ (of_decide_eq_true h2))
theorem named_hs {st : St} {i g : Int} (h : st.names i g = true) : (i, g) ∈ hs st.pl st.pl.length := by
  obtain ⟨k, q, rfl, hq, hf, rfl⟩ := St.named h
  have key : ∀ n, k < n → ((k : Int), q.gen) ∈ hs st.pl n := by
    intro n
    induction n with
    | zero => intro h; omega
    | succ n ih =>
      intro hn
      by_cases e : k = n
      · subst e; rw [hs_full hq hf]; simp
      · unfold hs; exact List.mem_append.2 (.inl (ih (by omega)))
  exact key _ (List.getElem?_eq_some_iff.1 hq).1
end Go.Proofs.Ytanahddlnchioaa.Gt
