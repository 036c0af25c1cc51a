/- The document's tree: the places within which the groups are; how it goes with the program's pool of handles. Conditions: as each fact states them. -/
import Derived.Test.YtanahddlnchioaaHpPure
import Derived.Test.YtanahddlnchioaaArenaDoc
namespace Go.Proofs.Ytanahddlnchioaa.Gt
open Hp
set_option linter.unusedVariables false
set_option linter.unusedSimpArgs false

/-- A place of the document's, off one of the program's: the root's is within none. -/
def docQ (k : Nat) (q : Hp.Pl) : Arena.Pl := ⟨if k = 0 then -1 else q.thing, q.full, q.gen⟩
def docL : List Hp.Pl → List Arena.Pl
  | [] => []
  | q :: l => ⟨-1, q.full, q.gen⟩ :: l.map fun q => ⟨q.thing, q.full, q.gen⟩
def doc (st : Hp.St) : Arena.St := ⟨st.room, docL st.pl, st.fr⟩
theorem docL_length (l : List Hp.Pl) : (docL l).length = l.length := by cases l <;> simp [docL]
theorem docL_at (l : List Hp.Pl) (k : Nat) : (docL l)[k]? = (l[k]?).map (docQ k) := by
  cases l with
  | nil => simp [docL]
  | cons q l =>
    cases k with
    | zero => simp [docL, docQ]
    | succ k =>
      simp only [docL, List.getElem?_cons_succ, List.getElem?_map]
      congr 1
theorem docL_set (l : List Hp.Pl) (k : Nat) (q : Hp.Pl) : docL (l.set k q) = (docL l).set k (docQ k q) := by
  apply List.ext_getElem?
  intro j
  rw [docL_at, List.getElem?_set, List.getElem?_set, docL_length, docL_at]
  by_cases h : k = j
  · subst h
    by_cases h2 : k < l.length
    · simp [h2]
    · simp [h2]
  · simp [h]
theorem docL_snoc (l : List Hp.Pl) (hl : l ≠ []) (q : Hp.Pl) : docL (l ++ [q]) = docL l ++ [⟨q.thing, q.full, q.gen⟩] := by
  cases l with
  | nil => exact absurd rfl hl
  | cons a l => simp [docL]
theorem doc_at (st : Hp.St) (i : Int) : (doc st).at i = (st.at i).map (docQ i.toNat) := by
  unfold Arena.St.at Hp.St.at doc
  split
  · exact docL_at _ _
  · rfl
theorem doc_names (st : Hp.St) (i g : Int) : (doc st).names i g = st.names i g := by
  unfold Arena.St.names Hp.St.names
  rw [doc_at]
  cases st.at i <;> rfl
theorem doc_hs (l : List Hp.Pl) (n : Nat) : Arena.hs (docL l) n = Hp.hs l n := by
  induction n with
  | zero => rfl
  | succ k ih =>
    simp only [Arena.hs, Hp.hs, ih, docL_at]
    cases l[k]? <;> rfl
theorem doc_set {st : Hp.St} {i : Int} (hi : i ≠ 0) (g x y : Int) : doc (st.set i g x y) = (doc st).set i g x := by
  unfold Hp.St.set Arena.St.set
  rw [doc_names]
  split
  · rename_i hn
    obtain ⟨k, q, rfl, _, _, _⟩ := Hp.St.named hn
    have hk : ¬ k = 0 := by omega
    simp [doc, docL_set, docQ, hk]
  · rfl
theorem doc_free {st : Hp.St} {i : Int} (hi : i ≠ 0) (g : Int) : doc (st.free i g) = (doc st).free i g := by
  unfold Hp.St.free Arena.St.free
  rw [doc_names]
  split
  · rename_i hn
    obtain ⟨k, q, rfl, _, _, _⟩ := Hp.St.named hn
    have hk : ¬ k = 0 := by omega
    simp [doc, docL_set, docQ, hk]
  · rfl
/-- Put of both: the root is there and never freed. -/
theorem doc_put {st : Hp.St} (h0 : st.pl ≠ []) (hf : 0 ∉ st.fr) (x y : Int) : (doc st).put x = ⟨doc (st.put x y).st, (st.put x y).i, (st.put x y).g, (st.put x y).n⟩ := by
  unfold Hp.St.put Arena.St.put
  show (match st.fr.getLast? with | _ => _) = _
  cases hl : st.fr.getLast? with
  | none =>
    simp only [doc, docL_length, hl]
    split
    · simp [docL_snoc _ h0]
    · rfl
  | some i =>
    have hi : ¬ i = 0 := by
      rintro rfl
      exact hf (List.mem_of_getLast? hl)
    simp only [doc, hl, docL_at]
    cases hq : st.pl[i]? with
    | none => rfl
    | some q =>
      simp [docL_set, docQ, hi]
end Go.Proofs.Ytanahddlnchioaa.Gt
