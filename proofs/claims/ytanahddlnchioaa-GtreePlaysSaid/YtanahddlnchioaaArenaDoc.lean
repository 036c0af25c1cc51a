/- The places of a pool as plain data, and rows in memory: what the document's pool wants where the program's own is of another type. Conditions: as each fact states them. -/
import Derived.Test.YtanahddlnchioaaRows
import Derived.Below
import Derived.BigQuiet
import Derived.BigRegion
import Derived.Deep.AppendLies
import Derived.Deep.DeepCutAuto
import Derived.Deep.DrawnRows
import Derived.Deep.LoopGhost
import Derived.Deep.QuietTactic
import Derived.Deep.RegionHeld3
import Derived.Deep.RegionLaw
import Derived.Handy
import Derived.IntWalk
import Derived.Laws.ResultCell
import Derived.Lib.Hide
import Derived.LoopTactic
import Derived.OpenShut
import Derived.ProofKit
import Derived.WalkKit
namespace Go.Proofs.Ytanahddlnchioaa.Arena
open Go.ChangeShapes Go.WideShapes Go.ChangeAt Go.RowKit
set_option linter.unusedVariables false
set_option linter.unusedSimpArgs false

/-- A place: what is in it, whether anything is, how often it was freed. -/
structure Pl where
  thing : Int
  full : Bool
  gen : Int

/-- A pool. -/
structure St where
  room : Int
  pl : List Pl
  fr : List Nat

def cellsP : List Pl → List Value
  | [] => []
  | p :: l => .int .i64 p.thing :: .bool p.full :: .int .i64 p.gen :: cellsP l
def cellsI (l : List Nat) : List Value := l.map fun (n : Nat) => Value.int .i64 (n : Int)

theorem cellsP_length (l : List Pl) : (cellsP l).length = l.length * 3 := by
  induction l with
  | nil => rfl
  | cons p l ih => simp [cellsP, ih]; omega
theorem cellsP_append (a b : List Pl) : cellsP (a ++ b) = cellsP a ++ cellsP b := by
  induction a with
  | nil => rfl
  | cons p l ih => simp [cellsP, ih]
theorem cellsP_at {l : List Pl} {i : Nat} {p : Pl} (h : l[i]? = some p) :
    (cellsP l)[i * 3]? = some (.int .i64 p.thing) ∧ (cellsP l)[i * 3 + 1]? = some (.bool p.full) ∧ (cellsP l)[i * 3 + 2]? = some (.int .i64 p.gen) := by
  induction l generalizing i with
  | nil => simp at h
  | cons q l ih =>
    cases i with
    | zero => simp at h; subst h; simp [cellsP]
    | succ i =>
      simp at h
      obtain ⟨h1, h2, h3⟩ := ih h
      rw [show (i + 1) * 3 = i * 3 + 3 by omega]
      exact ⟨by simpa [cellsP] using h1, by simpa [cellsP] using h2, by simpa [cellsP] using h3⟩
theorem cellsP_set {l : List Pl} {i : Nat} {q : Pl} (hi : i < l.length) :
    cellsP (l.set i q) = (((cellsP l).set (i * 3) (.int .i64 q.thing)).set (i * 3 + 1) (.bool q.full)).set (i * 3 + 2) (.int .i64 q.gen) := by
  induction l generalizing i with
  | nil => simp at hi
  | cons p l ih =>
    cases i with
    | zero => simp [cellsP]
    | succ i =>
      rw [show (i + 1) * 3 = i * 3 + 3 by omega]
      simp at hi
      simp [cellsP, ih hi]

/-- A row in memory that lies in no block of O. -/
def Row (w : World) (O : Nat → Prop) (e : TypeId) (size : Nat) (v : Value) (n : Nat) (xs : List Value) : Prop := w.ownsRow 0 e size v n xs ∧ ∀ k, v.ownBlock = some k → ¬ O k
/-- What is in the blocks of O is as it was. -/
structure Same (O : Nat → Prop) (w w' : World) : Prop where
  os : w'.os = w.os
  tape : w'.tape = w.tape
  output : w'.output = w.output
  size : w.heap.size ≤ w'.heap.size
  block : ∀ k, O k → w'.heap[k]? = w.heap[k]?

theorem Same.refl (O : Nat → Prop) (w : World) : Same O w w := ⟨rfl, rfl, rfl, Nat.le_refl _, fun _ _ => rfl⟩
theorem Same.trans {O : Nat → Prop} {a b c : World} (h : Same O a b) (k : Same O b c) : Same O a c :=
  ⟨k.os.trans h.os, k.tape.trans h.tape, k.output.trans h.output, Nat.le_trans h.size k.size, fun i hi => (k.block i hi).trans (h.block i hi)⟩
theorem Same.mono {O O' : Nat → Prop} {a b : World} (h : Same O a b) (k : ∀ i, O' i → O i) : Same O' a b := ⟨h.os, h.tape, h.output, h.size, fun i hi => h.block i (k i hi)⟩
theorem Same.of {O : Nat → Prop} {a b : World} (h : Below a.heap.size a b) (k : ∀ i, O i → i < a.heap.size) : Same O a b := ⟨h.os, h.tape, h.output, h.size, fun i hi => h.block i (k i hi)⟩
theorem Same.below {a b : World} {B : Nat} (h : Same (· < B) a b) : Below B a b := ⟨h.os, h.tape, h.output, h.size, h.block⟩
theorem Same.grown {O : Nat → Prop} {a w w' : World} {row : Option Nat} (h : Same O a w) (hg : w.grownBy w' row) (hB : ∀ k, O k → k < w.heap.size) (hr : ∀ k, row = some k → ¬ O k) : Same O a w' :=
  h.trans ⟨hg.os, hg.tape, hg.output, hg.size, fun k hk => hg.block k (hB k hk) (fun e => hr k e.symm hk)⟩
theorem Same.setCell {O : Nat → Prop} {a w : World} (h : Same O a w) {p : Addr} (hp : ¬ O p.block) (u : Value) : Same O a (w.setCell p u) :=
  h.trans ⟨rfl, rfl, rfl, by simp [World.setCell], fun k hk => Below.heap_setCell _ _ _ _ (fun e => hp (e ▸ hk))⟩
theorem Same.drew {O : Nat → Prop} {a w : World} (h : Same O a w) : Same O a w.drew := ⟨h.os, h.tape, h.output, h.size, h.block⟩
theorem Same.alloc {O : Nat → Prop} {a w : World} (h : Same O a w) (hB : ∀ k, O k → k < w.heap.size) (o : Obj) : Same O a (w.alloc o) :=
  h.trans ⟨rfl, rfl, rfl, by simp, fun k hk => Below.heap_alloc _ _ _ (hB k hk)⟩

section
variable {w w' : World} {O : Nat → Prop} {e : TypeId} {size : Nat} {v : Value} {n : Nat} {xs : List Value}

theorem lt_of {k : Nat} {o : Obj} (h : w.heap[k]? = some o) : k < w.heap.size := (Array.getElem?_eq_some_iff.1 h).1

theorem Row.lt (h : Row w O e size v n xs) {k : Nat} (hk : v.ownBlock = some k) : k < w.heap.size := (h.1.lt k hk).2
theorem Row.shape (h : Row w O e size v n xs) : ∃ ao cap, v = .slice ao n cap ∧ (n = 0 ∨ ∃ g, ao = some ⟨g, 0, none⟩) ∧ n ≤ cap := by
  rcases h.1.2 with ⟨rfl, rfl⟩ | ⟨g, cap, cur, rfl, _, _, h1, _⟩
  · exact ⟨none, 0, rfl, .inl rfl, Nat.le_refl _⟩
  · exact ⟨_, cap, rfl, .inr ⟨g, rfl⟩, h1⟩
/-- A row is as it was where its block is. -/
theorem Row.on (h : Row w O e size v n xs) (hb : ∀ k, v.ownBlock = some k → w'.heap[k]? = w.heap[k]?) : Row w' O e size v n xs := by
  refine ⟨⟨h.1.1, ?_⟩, h.2⟩
  rcases h.1.2 with h1 | ⟨g, cap, cur, rfl, h0, hg, h1⟩
  · exact .inl h1
  · exact .inr ⟨g, cap, cur, rfl, h0, by rw [hb g rfl, hg], h1⟩
theorem Row.fresh (h : Row w O e size v n xs) (hb : Below w.heap.size w w') : Row w' O e size v n xs := h.on fun k hk => hb.block k (h.lt hk)
theorem Row.other (h : Row w O e size v n xs) {O' : Nat → Prop} (hb : ∀ k, v.ownBlock = some k → ¬ O' k) : Row w O' e size v n xs := ⟨h.1, hb⟩
/-- Rows of different things lie in different blocks. -/
theorem Row.apart (h : Row w O e size v n xs) {k : Nat} {cur : Array Value} {e' : TypeId} {q : Nat × Nat} (hk : w.heap[k]? = some (.cells cur e' q)) (hne : e ≠ e') : ∀ j, v.ownBlock = some j → j ≠ k := by
  rintro j hj rfl
  rcases h.1.2 with ⟨rfl, _⟩ | ⟨g, cap, cur, rfl, h0, hg, h1⟩
  · cases hj
  · simp [Value.ownBlock] at hj
    subst hj
    rw [hg] at hk
    simp at hk
    exact hne hk.2.1
theorem Row.block (h : Row w O e size v n xs) {k : Nat} (hk : v.ownBlock = some k) : ∃ cur, w.heap[k]? = some (.cells cur e (0, 0)) := by
  rcases h.1.2 with ⟨rfl, _⟩ | ⟨g, cap, cur, rfl, h0, hg, h1⟩
  · cases hk
  · simp [Value.ownBlock] at hk
    subst hk
    exact ⟨cur, hg⟩
end

theorem fresh_trans {a b c : World} (h : Below a.heap.size a b) (k : Below b.heap.size b c) : Below a.heap.size a c := h.trans (k.mono h.size)
theorem drawn (w : World) (n : Nat) : Below w.heap.size w (w.drewN n) := ⟨rfl, rfl, rfl, Nat.le_refl _, fun _ _ => rfl⟩

theorem cell_alloc {w : World} {a : Addr} {v : Value} (h : w.cell? a = some v) (o : Obj) : (w.alloc o).cell? a = some v :=
  (World.cell?_of_block (Below.heap_alloc w o a.block (World.block_lt_of_cell? w a h))).trans h
def St.at (st : St) (i : Int) : Option Pl := if 0 ≤ i then st.pl[i.toNat]? else none
def St.names (st : St) (i g : Int) : Bool := match st.at i with
  | some p => p.full && (p.gen == g)
  | none => false
theorem St.names_neg {st : St} {i g : Int} (h : i < 0) : st.names i g = false := by simp [St.names, St.at, show ¬ 0 ≤ i by omega]
theorem St.names_far {st : St} {i g : Int} (h : (st.pl.length : Int) ≤ i) : st.names i g = false := by
  simp [St.names, St.at, show 0 ≤ i by omega, List.getElem?_eq_none (show st.pl.length ≤ i.toNat by omega)]
theorem St.names_in {st : St} {k : Nat} {g : Int} {p : Pl} (h : st.pl[k]? = some p) : st.names k g = (p.full && (p.gen == g)) := by
  simp [St.names, St.at, h]

def IsBool (b : Bool) (w : World) (e : Ending) (w' : World) : Prop := e = .returned (.bool b) ∧ Below w.heap.size w w'

theorem set_block {w : World} {b : Nat} {c : Array Value} {t : TypeId} (hb : w.heap[b]? = some (.cells c t (0, 0))) (j : Nat) (u : Value) : (w.setCell ⟨b, j, none⟩ u).heap[b]? = some (.cells (c.setIfInBounds j u) t (0, 0)) :=
  heap_setCell_same w b j c t u hb

theorem owns_cut {w : World} {e : TypeId} {g c k k' : Nat} {l : List Value} (h : w.ownsRow 0 e 1 (.slice (some ⟨g, 0, none⟩) k c) k l) (hk : k' ≤ k) : w.ownsRow 0 e 1 (.slice (some ⟨g, 0, none⟩) k' c) k' (l.take k') := by
  have h1 := h.1
  rcases h.2 with ⟨h', _⟩ | ⟨g', cap', cur, h', _, hg, h5, h6, h7, htake⟩
  · simp at h'
  · simp only [Value.slice.injEq, Option.some.injEq, Addr.mk.injEq, and_true, true_and] at h'
    obtain ⟨rfl, rfl⟩ := h'
    refine ⟨by simp; omega, .inr ⟨g, c, cur, rfl, Nat.zero_le _, hg, by omega, h6, h7, ?_⟩⟩
    rw [← htake, List.take_take]
    congr 1
    omega
def IsTwo (x n : Int) (w : World) (e : Ending) (w' : World) : Prop := e = .returned (.tuple #[.int .i64 x, .int .i64 n]) ∧ Below w.heap.size w w'

def St.thing (st : St) (i g : Int) : Int := if st.names i g then (match st.at i with | some p => p.thing | none => 0) else 0
def St.err (st : St) (i g : Int) : Int := if st.names i g then 0 else 2

theorem St.named {st : St} {i g : Int} (h : st.names i g = true) : ∃ (k : Nat) (q : Pl), i = k ∧ st.pl[k]? = some q ∧ q.full = true ∧ q.gen = g := by
  by_cases hi : 0 ≤ i
  · obtain ⟨k, rfl⟩ := Int.eq_ofNat_of_zero_le hi
    cases hq : st.pl[k]? with
    | none => simp [St.names, St.at, hq] at h
    | some q =>
      simp [St.names, St.at, hq] at h
      exact ⟨k, q, rfl, hq, h.1, h.2⟩
  · rw [St.names_neg (by omega)] at h; cases h
def St.set (st : St) (i g x : Int) : St := if st.names i g then { st with pl := st.pl.set i.toNat ⟨x, true, g⟩ } else st
theorem set_eq {l : List Value} {i : Nat} {v : Value} (h : l[i]? = some v) : l.set i v = l := by
  apply List.ext_getElem?
  intro j
  rw [List.getElem?_set]
  split
  · rename_i e; subst e; rw [if_pos (List.getElem?_eq_some_iff.1 h).1, h]
  · rfl
theorem infoI : (Try.prog.info? 3).map (fun i => (i.zero, i.size, i.bytes)) = some (some (.int .i64 0), 1, 8) := by kernel_rfl

theorem own_none {n c : Nat} {v : Value} {H g : Nat} (hat : v.ownBlock = some g ∨ g = H) : ∀ k, (Value.slice (some ⟨g, 0, none⟩) n c).ownBlock = some k → v.ownBlock = some k ∨ k = H := by
  intro k hk
  simp [Value.ownBlock] at hk
  subst hk
  exact hat

def St.free (st : St) (i g : Int) : St := if st.names i g then { st with pl := st.pl.set i.toNat ⟨0, false, g + 1⟩, fr := st.fr ++ [i.toNat] } else st
theorem cellsI_append (a : List Nat) (k : Nat) : cellsI (a ++ [k]) = cellsI a ++ [.int .i64 (k : Int)] := by simp [cellsI]
def hs (pl : List Pl) : Nat → List (Int × Int)
  | 0 => []
  | k + 1 => hs pl k ++ (match pl[k]? with | some q => if q.full then [((k : Int), q.gen)] else [] | none => [])
def cellsH (l : List (Int × Int)) : List Value := l.flatMap fun p => [Value.int .i64 p.1, Value.int .i64 p.2]
theorem hs_full {pl : List Pl} {k : Nat} {q : Pl} (h : pl[k]? = some q) (hf : q.full = true) : hs pl (k + 1) = hs pl k ++ [((k : Int), q.gen)] := by simp [hs, h, hf]
theorem hs_free {pl : List Pl} {k : Nat} {q : Pl} (h : pl[k]? = some q) (hf : q.full = false) : hs pl (k + 1) = hs pl k := by simp [hs, h, hf]
theorem hs_le (pl : List Pl) (k : Nat) : (hs pl k).length ≤ k := by
  induction k with
  | zero => simp [hs]
  | succ k ih =>
    simp only [hs, List.length_append]
    split
    · split <;> simp <;> omega
    · simp; omega
theorem cellsH_append (a b : List (Int × Int)) : cellsH (a ++ b) = cellsH a ++ cellsH b := by simp [cellsH]

def IsAll (l : List (Int × Int)) (w : World) (e : Ending) (w' : World) : Prop := ∃ v, e = .returned v ∧ w'.ownsRow w.heap.size 34 2 v l.length (cellsH l) ∧ Below w.heap.size w w'
theorem infoH : (Try.prog.info? 34).map (fun i => (i.zero, i.size, i.bytes)) = some (some (.agg #[.int .i64 0, .int .i64 0]), 2, 16) := by kernel_rfl

theorem owns_fresh {w w' : World} {B : Nat} {e : TypeId} {size : Nat} {v : Value} {n : Nat} {xs : List Value} (h : w.ownsRow B e size v n xs) (hB : Below w.heap.size w w') : w'.ownsRow B e size v n xs := by
  refine ⟨h.1, ?_⟩
  rcases h.2 with h1 | ⟨g, cap, cur, rfl, h0, hg, h1⟩
  · exact .inl h1
  · exact .inr ⟨g, cap, cur, rfl, h0, by rw [hB.block g (lt_of hg), hg], h1⟩
def cnt : List Pl → Nat
  | [] => 0
  | q :: l => (if q.full then 1 else 0) + cnt l
theorem cnt_append (a b : List Pl) : cnt (a ++ b) = cnt a + cnt b := by
  induction a with
  | nil => simp [cnt]
  | cons q l ih => simp [cnt, ih]; omega
theorem cnt_set {l : List Pl} {i : Nat} {q : Pl} (q' : Pl) (h : l[i]? = some q) : cnt (l.set i q') + (if q.full then 1 else 0) = cnt l + (if q'.full then 1 else 0) := by
  induction l generalizing i with
  | nil => simp at h
  | cons p l ih =>
    cases i with
    | zero => simp at h; subst h; simp only [List.set_cons_zero, cnt]; omega
    | succ i => simp at h; have := ih h; simp only [List.set_cons_succ, cnt]; omega
theorem cnt_le (l : List Pl) : cnt l ≤ l.length := by
  induction l with
  | nil => simp [cnt]
  | cons p l ih => simp only [cnt, List.length_cons]; split <;> omega
theorem cnt_take {l : List Pl} {k : Nat} {q : Pl} (h : l[k]? = some q) : cnt (l.take (k + 1)) = cnt (l.take k) + (if q.full then 1 else 0) := by
  rw [List.take_add_one, h, cnt_append]
  simp [cnt]
theorem hs_cnt (l : List Pl) (k : Nat) : (hs l k).length = cnt (l.take k) := by
  induction k with
  | zero => simp [hs, cnt]
  | succ k ih =>
    cases h : l[k]? with
    | none =>
      have hl : l.length ≤ k := by simpa using h
      rw [List.take_of_length_le (show l.length ≤ k + 1 by omega), ← List.take_of_length_le hl, ← ih]
      simp [hs, h, List.take_of_length_le hl]
    | some q =>
      rw [cnt_take h]
      cases hf : q.full
      · rw [hs_free h hf, ih]; simp
      · rw [hs_full h hf]; simp [ih]

structure Inv (N : Int) (st : St) : Prop where
  r1 : 1 ≤ st.room
  r2 : st.room ≤ 4096
  len : (st.pl.length : Int) ≤ st.room
  nodup : st.fr.Nodup
  free : ∀ i ∈ st.fr, ∃ q, st.pl[i]? = some q ∧ q.full = false
  count : cnt st.pl + st.fr.length = st.pl.length
  gens : ∀ q ∈ st.pl, 0 ≤ q.gen ∧ q.gen ≤ N
theorem Inv.l1 {N : Int} {st : St} (h : Inv N st) : st.pl.length ≤ 4096 := by have := h.len; have := h.r2; omega
theorem Inv.l2 {N : Int} {st : St} (h : Inv N st) : st.fr.length ≤ 4096 := by have := h.l1; have := h.count; omega
theorem Inv.new {r : Int} (h1 : 1 ≤ r) (h2 : r ≤ 4096) : Inv 0 ⟨r, [], []⟩ := ⟨h1, h2, by simp; omega, by simp, by simp, by simp [cnt], by simp⟩

structure PutR where
  st : St
  i : Int
  g : Int
  n : Int
def St.put (st : St) (x : Int) : PutR :=
  match st.fr.getLast? with
  | some i => match st.pl[i]? with
    | some q => ⟨⟨st.room, st.pl.set i ⟨x, true, q.gen⟩, st.fr.dropLast⟩, i, q.gen, 0⟩
    | none => ⟨st, 0, 0, 3⟩
  | none => if (st.pl.length : Int) < st.room then ⟨⟨st.room, st.pl ++ [⟨x, true, 0⟩], st.fr⟩, st.pl.length, 0, 0⟩ else ⟨st, 0, 0, 3⟩

theorem Inv.put {N : Int} {st : St} (h : Inv N st) (x : Int) :
    (st.fr = [] ∧ (st.pl.length : Int) = st.room ∧ st.put x = ⟨st, 0, 0, 3⟩) ∨
    (st.fr = [] ∧ (st.pl.length : Int) < st.room ∧ st.put x = ⟨⟨st.room, st.pl ++ [⟨x, true, 0⟩], []⟩, st.pl.length, 0, 0⟩) ∨
    (∃ l i q, st.fr = l ++ [i] ∧ st.pl[i]? = some q ∧ q.full = false ∧ st.put x = ⟨⟨st.room, st.pl.set i ⟨x, true, q.gen⟩, l⟩, i, q.gen, 0⟩) := by
  rcases List.eq_nil_or_concat st.fr with hf | ⟨l, i, hf⟩
  · by_cases hl : (st.pl.length : Int) < st.room
    · exact .inr (.inl ⟨hf, hl, by simp [St.put, hf, hl]⟩)
    · exact .inl ⟨hf, by have := h.len; omega, by simp [St.put, hf, hl]⟩
  · rw [List.concat_eq_append] at hf
    obtain ⟨q, hq, hqf⟩ := h.free i (by simp [hf])
    exact .inr (.inr ⟨l, i, q, hf, hq, hqf, by simp [St.put, hf, hq]⟩)
theorem Inv.afterPut {N : Int} {st : St} (h : Inv N st) (hN : 0 ≤ N) (x : Int) : Inv N (st.put x).st := by
  rcases h.put x with ⟨_, _, e⟩ | ⟨hf, hl, e⟩ | ⟨l, i, q, hf, hq, hqf, e⟩
  · rw [e]; exact h
  · rw [e]
    refine ⟨h.r1, h.r2, by simp; omega, by simp, by simp, ?_, ?_⟩
    · have := h.count; simp [hf] at this; simp [cnt_append, cnt, this]
    · intro q hq
      rcases List.mem_append.1 hq with hq | hq
      · exact h.gens q hq
      · simp at hq; subst hq; exact ⟨by simp, by simpa using hN⟩
  · rw [e]
    have hn := h.nodup
    rw [hf] at hn
    have hi : i ∉ l := fun hi => by
      have := (List.nodup_append.1 hn).2.2 i hi i (by simp)
      exact this rfl
    refine ⟨h.r1, h.r2, by simpa using h.len, (List.nodup_append.1 hn).1, ?_, ?_, ?_⟩
    · intro j hj
      obtain ⟨p, hp, hpf⟩ := h.free j (by simp [hf, hj])
      have hne : i ≠ j := fun e => hi (by rw [e]; exact hj)
      exact ⟨p, by simp only; rw [List.getElem?_set_ne hne]; exact hp, hpf⟩
    · have c1 := h.count
      have c2 := cnt_set ⟨x, true, q.gen⟩ hq
      simp [hf, hqf] at c1 c2
      simp
      omega
    · intro p hp
      rcases List.mem_or_eq_of_mem_set hp with hp | rfl
      · exact h.gens p hp
      · exact h.gens q (List.mem_of_getElem? hq)
theorem Inv.afterSet {N : Int} {st : St} (h : Inv N st) (i g x : Int) : Inv N (st.set i g x) := by
  cases hn : st.names i g
  · rw [show st.set i g x = st by simp [St.set, hn]]; exact h
  obtain ⟨k, q, rfl, hq, hqf, rfl⟩ := St.named hn
  rw [show st.set k q.gen x = { st with pl := st.pl.set k ⟨x, true, q.gen⟩ } by simp [St.set, hn]]
  refine ⟨h.r1, h.r2, by simpa using h.len, h.nodup, ?_, ?_, ?_⟩
  · intro j hj
    obtain ⟨p, hp, hpf⟩ := h.free j hj
    have hne : k ≠ j := fun e => by subst e; rw [hq] at hp; cases hp; rw [hqf] at hpf; cases hpf
    exact ⟨p, by simp only; rw [List.getElem?_set_ne hne]; exact hp, hpf⟩
  · have c1 := h.count
    have c2 := cnt_set ⟨x, true, q.gen⟩ hq
    simp [hqf] at c2
    simp
    omega
  · intro p hp
    rcases List.mem_or_eq_of_mem_set hp with hp | rfl
    · exact h.gens p hp
    · exact h.gens q (List.mem_of_getElem? hq)
theorem Inv.mono {N M : Int} {st : St} (h : Inv N st) (hM : N ≤ M) : Inv M st := ⟨h.r1, h.r2, h.len, h.nodup, h.free, h.count, fun q hq => ⟨(h.gens q hq).1, by have := (h.gens q hq).2; omega⟩⟩
theorem Inv.afterFree {N : Int} {st : St} (h : Inv N st) (i g : Int) : Inv (N + 1) (st.free i g) := by
  cases hn : st.names i g
  · rw [show st.free i g = st by simp [St.free, hn]]; exact h.mono (by omega)
  obtain ⟨k, q, rfl, hq, hqf, rfl⟩ := St.named hn
  rw [show st.free k q.gen = { st with pl := st.pl.set k ⟨0, false, q.gen + 1⟩, fr := st.fr ++ [k] } by simp [St.free, hn]]
  have hk : k ∉ st.fr := fun hk => by
    obtain ⟨p, hp, hpf⟩ := h.free k hk
    rw [hq] at hp; cases hp; rw [hqf] at hpf; cases hpf
  have hkl : k < st.pl.length := (List.getElem?_eq_some_iff.1 hq).1
  refine ⟨h.r1, h.r2, by simpa using h.len, ?_, ?_, ?_, ?_⟩
  · exact List.nodup_append.2 ⟨h.nodup, by simp, by intro a ha b hb; simp at hb; subst hb; exact fun e => hk (e ▸ ha)⟩
  · intro j hj
    rcases List.mem_append.1 hj with hj | hj
    · obtain ⟨p, hp, hpf⟩ := h.free j hj
      have hne : k ≠ j := fun e => hk (by rw [e]; exact hj)
      exact ⟨p, by simp only; rw [List.getElem?_set_ne hne]; exact hp, hpf⟩
    · simp at hj; subst hj
      exact ⟨⟨0, false, q.gen + 1⟩, by simp [List.getElem?_set, hkl], rfl⟩
  · have c1 := h.count
    have c2 := cnt_set ⟨0, false, q.gen + 1⟩ hq
    simp [hqf] at c2
    simp
    omega
  · intro p hp
    rcases List.mem_or_eq_of_mem_set hp with hp | rfl
    · have := h.gens p hp; exact ⟨this.1, by omega⟩
    · have := h.gens q (List.mem_of_getElem? hq); exact ⟨by simp; omega, by simp; omega⟩

section
variable {w : World} {b : Nat} {O : Nat → Prop} {st : St} {N : Int}
end
theorem Same.cell {w w' : World} {O : Nat → Prop} (h : Same O w w') {B j : Nat} {v : Value} (hO : O B) (hc : w.cell? ⟨B, j, none⟩ = some v) : w'.cell? ⟨B, j, none⟩ = some v :=
  (World.cell?_of_block (h.block _ hO)).trans hc

theorem cell_fresh {w w' : World} {a : Addr} {v : Value} (h : w.cell? a = some v) (hg : Below w.heap.size w w') : w'.cell? a = some v := (hg.cell (World.block_lt_of_cell? w a h)).trans h

theorem owns_shape {w : World} {B : Nat} {e : TypeId} {s n : Nat} {v : Value} {xs : List Value} (hown : w.ownsRow B e s v n xs) : ∃ ao cap, v = .slice ao n cap := by
  rcases hown.2 with ⟨rfl, rfl⟩ | ⟨g, cap, cur, rfl, _⟩
  · exact ⟨none, 0, rfl⟩
  · exact ⟨_, cap, rfl⟩
theorem cellsH_at {l : List (Int × Int)} {i : Nat} {p : Int × Int} (h : l[i]? = some p) : (cellsH l)[i * 2]? = some (.int .i64 p.1) ∧ (cellsH l)[i * 2 + 1]? = some (.int .i64 p.2) := by
  induction l generalizing i with
  | nil => simp at h
  | cons q l ih =>
    cases i with
    | zero => simp at h; subst h; simp [cellsH]
    | succ i =>
      simp at h
      obtain ⟨h1, h2⟩ := ih h
      rw [show (i + 1) * 2 = i * 2 + 2 by omega]
      simp only [cellsH, List.flatMap_cons] at h1 h2 ⊢
      exact ⟨by simpa using h1, by simpa using h2⟩
theorem told_cell {w : World} {B : Nat} {v : Value} {l : List (Int × Int)} {i : Nat} {p : Int × Int} {e : TypeId} (h : w.ownsRow B e 2 v l.length (cellsH l)) (hp : l[i]? = some p) :
    ∃ g c, v = .slice (some ⟨g, 0, none⟩) l.length c ∧ w.cell? ⟨g, i * 2, none⟩ = some (.int .i64 p.1) ∧ w.cell? ⟨g, i * 2 + 1, none⟩ = some (.int .i64 p.2) := by
  have hi : i < l.length := (List.getElem?_eq_some_iff.1 hp).1
  obtain ⟨g, c, rfl, _⟩ := h.form (by omega)
  obtain ⟨h1, h2⟩ := cellsH_at hp
  exact ⟨g, c, rfl, by rw [h.cellAt _ (by omega), h1], by rw [h.cellAt _ (by omega), h2]⟩
theorem infoB : (Try.prog.info? 4).map (fun i => (i.zero, i.size, i.bytes)) = some (some (.bool false), 1, 1) := by kernel_rfl

theorem drewN2 (W : World) (a b : Nat) : (W.drewN a).drewN b = W.drewN (a + b) := by simp [World.drewN, Nat.add_assoc]
end Go.Proofs.Ytanahddlnchioaa.Arena
