/- A pool of places, as plain data; and how it lies in memory. Conditions: none. -/
import Derived.Test.YtanahddlnchioaaRows
import Derived.WalkKit
import Derived.ProofKit
import Derived.OpenShut
import Derived.Below
import Derived.Deep.AppendLies
namespace Go.Proofs.Ytanahddlnchioaa.Hp
open Go.ChangeShapes Go.WideShapes Go.ChangeAt Go.RowKit
set_option linter.unusedVariables false
set_option linter.unusedSimpArgs false

/-- A place: what is in it, whether anything is, how often it was freed. -/
structure Pl where
  thing : Int
  tgen : Int
  full : Bool
  gen : Int

/-- A pool. -/
structure St where
  room : Int
  pl : List Pl
  fr : List Nat

def cellsP : List Pl → List Value
  | [] => []
  | p :: l => .int .i64 p.thing :: .int .i64 p.tgen :: .bool p.full :: .int .i64 p.gen :: cellsP l
def cellsI (l : List Nat) : List Value := l.map fun (n : Nat) => Value.int .i64 (n : Int)

theorem cellsP_length (l : List Pl) : (cellsP l).length = l.length * 4 := by
  induction l with
  | nil => rfl
  | cons p l ih => simp [cellsP, ih]; omega
theorem cellsP_append (a b : List Pl) : cellsP (a ++ b) = cellsP a ++ cellsP b := by
  induction a with
  | nil => rfl
  | cons p l ih => simp [cellsP, ih]
theorem cellsP_at {l : List Pl} {i : Nat} {p : Pl} (h : l[i]? = some p) :
    (cellsP l)[i * 4]? = some (.int .i64 p.thing) ∧ (cellsP l)[i * 4 + 1]? = some (.int .i64 p.tgen) ∧ (cellsP l)[i * 4 + 2]? = some (.bool p.full) ∧ (cellsP l)[i * 4 + 3]? = some (.int .i64 p.gen) := by
  induction l generalizing i with
  | nil => simp at h
  | cons q l ih =>
    cases i with
    | zero => simp at h; subst h; simp [cellsP]
    | succ i =>
      simp at h
      obtain ⟨h1, h2, h3, h4⟩ := ih h
      rw [show (i + 1) * 4 = i * 4 + 4 by omega]
      exact ⟨by simpa [cellsP] using h1, by simpa [cellsP] using h2, by simpa [cellsP] using h3, by simpa [cellsP] using h4⟩
theorem cellsP_set {l : List Pl} {i : Nat} {q : Pl} (hi : i < l.length) :
    cellsP (l.set i q) = ((((cellsP l).set (i * 4) (.int .i64 q.thing)).set (i * 4 + 1) (.int .i64 q.tgen)).set (i * 4 + 2) (.bool q.full)).set (i * 4 + 3) (.int .i64 q.gen) := by
  induction l generalizing i with
  | nil => simp at hi
  | cons p l ih =>
    cases i with
    | zero => simp [cellsP]
    | succ i =>
      rw [show (i + 1) * 4 = i * 4 + 4 by omega]
      simp at hi
      simp [cellsP, ih hi]

/-- A row in memory that lies in no block of O. -/
def Row (w : World) (O : Nat → Prop) (e : TypeId) (size : Nat) (v : Value) (n : Nat) (xs : List Value) : Prop := w.ownsRow 0 e size v n xs ∧ ∀ k, v.ownBlock = some k → ¬ O k
/-- A pool at block b that lies in no block of O. -/
def Pool (w : World) (b : Nat) (O : Nat → Prop) (st : St) : Prop :=
  ∃ vp vf, w.heap[b]? = some (.cells #[.int .i64 st.room, vp, vf] 87 (0, 0)) ∧ ¬ O b ∧ Row w O 90 4 vp st.pl.length (cellsP st.pl) ∧ Row w O 3 1 vf st.fr.length (cellsI st.fr)
/-- What is in the blocks of O is as it was. -/
structure Same (O : Nat → Prop) (w w' : World) : Prop where
  os : w'.os = w.os
  tape : w'.tape = w.tape
  output : w'.output = w.output
  size : w.heap.size ≤ w'.heap.size
  block : ∀ k, O k → w'.heap[k]? = w.heap[k]?

theorem Same.refl (O : Nat → Prop) (w : World) : Same O w w := ⟨rfl, rfl, rfl, Nat.le_refl _, fun _ _ => rfl⟩
theorem Same.trans {O : Nat → Prop} {a b c : World} (h : Same O a b) (k : Same O b c) : Same O a c :=
  ⟨k.os.trans h.os, k.tape.trans h.tape, k.output.trans h.output, Nat.le_trans h.size k.size, fun i hi => (k.block i hi).trans (h.block i hi)⟩
theorem Same.mono {O O' : Nat → Prop} {a b : World} (h : Same O a b) (k : ∀ i, O' i → O i) : Same O' a b := ⟨h.os, h.tape, h.output, h.size, fun i hi => h.block i (k i hi)⟩
theorem Same.of {O : Nat → Prop} {a b : World} (h : Below a.heap.size a b) (k : ∀ i, O i → i < a.heap.size) : Same O a b := ⟨h.os, h.tape, h.output, h.size, fun i hi => h.block i (k i hi)⟩
theorem Same.below {a b : World} {B : Nat} (h : Same (· < B) a b) : Below B a b := ⟨h.os, h.tape, h.output, h.size, h.block⟩
theorem Same.grown {O : Nat → Prop} {a w w' : World} {row : Option Nat} (h : Same O a w) (hg : w.grownBy w' row) (hB : ∀ k, O k → k < w.heap.size) (hr : ∀ k, row = some k → ¬ O k) : Same O a w' :=
  h.trans ⟨hg.os, hg.tape, hg.output, hg.size, fun k hk => hg.block k (hB k hk) (fun e => hr k e.symm hk)⟩
theorem Same.setCell {O : Nat → Prop} {a w : World} (h : Same O a w) {p : Addr} (hp : ¬ O p.block) (u : Value) : Same O a (w.setCell p u) :=
  h.trans ⟨rfl, rfl, rfl, by simp [World.setCell], fun k hk => Below.heap_setCell _ _ _ _ (fun e => hp (e ▸ hk))⟩
theorem Same.drew {O : Nat → Prop} {a w : World} (h : Same O a w) : Same O a w.drew := ⟨h.os, h.tape, h.output, h.size, h.block⟩
theorem Same.alloc {O : Nat → Prop} {a w : World} (h : Same O a w) (hB : ∀ k, O k → k < w.heap.size) (o : Obj) : Same O a (w.alloc o) :=
  h.trans ⟨rfl, rfl, rfl, by simp, fun k hk => Below.heap_alloc _ _ _ (hB k hk)⟩

section
variable {w w' : World} {O : Nat → Prop} {e : TypeId} {size : Nat} {v : Value} {n : Nat} {xs : List Value}

theorem lt_of {k : Nat} {o : Obj} (h : w.heap[k]? = some o) : k < w.heap.size := (Array.getElem?_eq_some_iff.1 h).1

theorem Row.lt (h : Row w O e size v n xs) {k : Nat} (hk : v.ownBlock = some k) : k < w.heap.size := (h.1.lt k hk).2
theorem Row.shape (h : Row w O e size v n xs) : ∃ ao cap, v = .slice ao n cap ∧ (n = 0 ∨ ∃ g, ao = some ⟨g, 0, none⟩) ∧ n ≤ cap := by
  rcases h.1.2 with ⟨rfl, rfl⟩ | ⟨g, cap, cur, rfl, _, _, h1, _⟩
  · exact ⟨none, 0, rfl, .inl rfl, Nat.le_refl _⟩
  · exact ⟨_, cap, rfl, .inr ⟨g, rfl⟩, h1⟩
/-- A row is as it was where its block is. -/
theorem Row.on (h : Row w O e size v n xs) (hb : ∀ k, v.ownBlock = some k → w'.heap[k]? = w.heap[k]?) : Row w' O e size v n xs := by
  refine ⟨⟨h.1.1, ?_⟩, h.2⟩
  rcases h.1.2 with h1 | ⟨g, cap, cur, rfl, h0, hg, h1⟩
  · exact .inl h1
  · exact .inr ⟨g, cap, cur, rfl, h0, by rw [hb g rfl, hg], h1⟩
theorem Row.fresh (h : Row w O e size v n xs) (hb : Below w.heap.size w w') : Row w' O e size v n xs := h.on fun k hk => hb.block k (h.lt hk)
theorem Row.other (h : Row w O e size v n xs) {O' : Nat → Prop} (hb : ∀ k, v.ownBlock = some k → ¬ O' k) : Row w O' e size v n xs := ⟨h.1, hb⟩
/-- Rows of different things lie in different blocks. -/
theorem Row.apart (h : Row w O e size v n xs) {k : Nat} {cur : Array Value} {e' : TypeId} {q : Nat × Nat} (hk : w.heap[k]? = some (.cells cur e' q)) (hne : e ≠ e') : ∀ j, v.ownBlock = some j → j ≠ k := by
  rintro j hj rfl
  rcases h.1.2 with ⟨rfl, _⟩ | ⟨g, cap, cur, rfl, h0, hg, h1⟩
  · cases hj
  · simp [Value.ownBlock] at hj
    subst hj
    rw [hg] at hk
    simp at hk
    exact hne hk.2.1
theorem Row.block (h : Row w O e size v n xs) {k : Nat} (hk : v.ownBlock = some k) : ∃ cur, w.heap[k]? = some (.cells cur e (0, 0)) := by
  rcases h.1.2 with ⟨rfl, _⟩ | ⟨g, cap, cur, rfl, h0, hg, h1⟩
  · cases hk
  · simp [Value.ownBlock] at hk
    subst hk
    exact ⟨cur, hg⟩
end

theorem Pool.lt {w : World} {b : Nat} {O : Nat → Prop} {st : St} (h : Pool w b O st) : b < w.heap.size := by
  obtain ⟨vp, vf, hb, _⟩ := h
  exact lt_of hb
theorem Pool.fresh {w w' : World} {b : Nat} {O : Nat → Prop} {st : St} (h : Pool w b O st) (hB : Below w.heap.size w w') : Pool w' b O st := by
  obtain ⟨vp, vf, hb, ho, hp, hf⟩ := h
  exact ⟨vp, vf, by rw [hB.block b (lt_of hb), hb], ho, hp.fresh hB, hf.fresh hB⟩
/-- Other blocks are held apart from now on. -/
theorem Pool.other {w : World} {b : Nat} {O O' : Nat → Prop} {st : St} (h : Pool w b O st) (hO : ∀ k, O' k → O k ∨ w.heap.size ≤ k) : Pool w b O' st := by
  obtain ⟨vp, vf, hb, ho, hp, hf⟩ := h
  have key : ∀ k, k < w.heap.size → ¬ O k → ¬ O' k := fun k h1 h2 h3 => (hO k h3).elim h2 (by omega)
  exact ⟨vp, vf, hb, key _ (lt_of hb) ho, ⟨hp.1, fun k hk => key k (hp.lt hk) (hp.2 k hk)⟩, ⟨hf.1, fun k hk => key k (hf.lt hk) (hf.2 k hk)⟩⟩
end Go.Proofs.Ytanahddlnchioaa.Hp
