/- How a queue of entities lies in memory. Conditions: none. -/
import Derived.Test.YteoemafdknmklaaQueuePlain
namespace Go.Proofs.Yteoemafdknmklaa.Queue
open Go.ChangeShapes Go.WideShapes Go.ChangeAt Go.RowKit Tree
set_option linter.unusedVariables false
set_option linter.unusedSimpArgs false
set_option maxRecDepth 100000

/-- A queue. -/
structure St where
  es : List Ent
  cur : Int
  min : Int
  flag : Bool

/-- What is in the blocks of O is as it was. -/
structure Same (O : Nat → Prop) (w w' : World) : Prop where
  os : w'.os = w.os
  tape : w'.tape = w.tape
  output : w'.output = w.output
  size : w.heap.size ≤ w'.heap.size
  block : ∀ k, O k → w'.heap[k]? = w.heap[k]?
theorem Same.refl (O : Nat → Prop) (w : World) : Same O w w := ⟨rfl, rfl, rfl, Nat.le_refl _, fun _ _ => rfl⟩
theorem Same.trans {O : Nat → Prop} {a b c : World} (h : Same O a b) (k : Same O b c) : Same O a c :=
  ⟨k.os.trans h.os, k.tape.trans h.tape, k.output.trans h.output, Nat.le_trans h.size k.size, fun i hi => (k.block i hi).trans (h.block i hi)⟩
theorem Same.mono {O O' : Nat → Prop} {a b : World} (h : Same O a b) (k : ∀ i, O' i → O i) : Same O' a b := ⟨h.os, h.tape, h.output, h.size, fun i hi => h.block i (k i hi)⟩
theorem Same.of {O : Nat → Prop} {a b : World} (h : Below a.heap.size a b) (k : ∀ i, O i → i < a.heap.size) : Same O a b := ⟨h.os, h.tape, h.output, h.size, fun i hi => h.block i (k i hi)⟩
theorem Same.chg {O B : Nat → Prop} {a b : World} (h : Chg B a b) (k : ∀ i, O i → i < a.heap.size) (hn : ∀ i, O i → ¬ B i) : Same O a b := ⟨h.os, h.tape, h.output, h.size, fun i hi => h.block i (k i hi) (hn i hi)⟩
theorem Same.below {a b : World} {B : Nat} (h : Same (· < B) a b) : Below B a b := ⟨h.os, h.tape, h.output, h.size, h.block⟩
theorem Same.grown {O : Nat → Prop} {w w' : World} {row : Nat} (hg : w.grownBy w' (some row)) (hB : ∀ k, O k → k < w.heap.size) (hr : ¬ O row) : Same O w w' :=
  ⟨hg.os, hg.tape, hg.output, hg.size, fun k hk => hg.block k (hB k hk) (fun e => hr (by cases e; exact hk))⟩
theorem Same.setCell {O : Nat → Prop} {w : World} {p : Addr} (hp : ¬ O p.block) (u : Value) : Same O w (w.setCell p u) :=
  ⟨rfl, rfl, rfl, by simp [World.setCell], fun k hk => Below.heap_setCell _ _ _ _ (fun e => hp (e ▸ hk))⟩

/-- A queue's own block. -/
def Qb (w : World) (q m t : Nat) (cur mn : Int) (fl : Bool) : Prop :=
  w.heap[q]? = some (.cells #[.map (some m), .pointer (some ⟨t, 0, none⟩), .int .i64 cur, .int .i64 mn, .bool fl] 69 (0, 0))
theorem Qb.lt {w : World} {q m t : Nat} {cur mn : Int} {fl : Bool} (h : Qb w q m t cur mn fl) : q < w.heap.size := lt_of h
theorem Qb.on {w w' : World} {q m t : Nat} {cur mn : Int} {fl : Bool} (h : Qb w q m t cur mn fl) (e : w'.heap[q]? = w.heap[q]?) : Qb w' q m t cur mn fl := e.trans h
theorem Qb.cells {w : World} {q m t : Nat} {cur mn : Int} {fl : Bool} (h : Qb w q m t cur mn fl) :
    w.cell? ⟨q, 0, none⟩ = some (.map (some m)) ∧ w.cell? ⟨q, 1, none⟩ = some (.pointer (some ⟨t, 0, none⟩)) ∧ w.cell? ⟨q, 2, none⟩ = some (.int .i64 cur) ∧ w.cell? ⟨q, 3, none⟩ = some (.int .i64 mn) ∧ w.cell? ⟨q, 4, none⟩ = some (.bool fl) ∧
    (∀ j, w.frozen? ⟨q, j, none⟩ = false) := by
  unfold Qb at h
  refine ⟨?_, ?_, ?_, ?_, ?_, fun j => frozen_of_row w q j _ _ h⟩
  all_goals rw [cell_of_row w q _ _ _ _ h]; rfl
theorem Qb.setCur {w : World} {q m t : Nat} {cur mn : Int} {fl : Bool} (h : Qb w q m t cur mn fl) (u : Int) : Qb (w.setCell ⟨q, 2, none⟩ (.int .i64 u)) q m t u mn fl := by unfold Qb at *; rw [heap_setCell_same w q 2 _ _ _ h]; rfl
theorem Qb.setMin {w : World} {q m t : Nat} {cur mn : Int} {fl : Bool} (h : Qb w q m t cur mn fl) (u : Int) : Qb (w.setCell ⟨q, 3, none⟩ (.int .i64 u)) q m t cur u fl := by unfold Qb at *; rw [heap_setCell_same w q 3 _ _ _ h]; rfl
theorem Qb.setFlag {w : World} {q m t : Nat} {cur mn : Int} {fl : Bool} (h : Qb w q m t cur mn fl) (u : Bool) : Qb (w.setCell ⟨q, 4, none⟩ (.bool u)) q m t cur mn u := by unfold Qb at *; rw [heap_setCell_same w q 4 _ _ _ h]; rfl

/-- All of a queue. -/
structure Ql (w : World) (q m t : Nat) (O : Nat → Prop) (T : Tr) (st : St) : Prop where
  blk : Qb w q m t st.cur st.min st.flag
  map : Mp w m st.es
  kept : Kept w t (fun b => O b ∨ b = q ∨ b = m) T
  keys : T.keys = st.es.map Ent.key
  oq : ¬ O q
  om : ¬ O m
  qm : q ≠ m
def Qu (w : World) (q : Nat) (O : Nat → Prop) (st : St) : Prop := ∃ m t T, Ql w q m t O T st

theorem kept_on {w w' : World} {t : Nat} {O : Nat → Prop} {T : Tr} (h : Kept w t O T) (hb : ∀ b ∈ t :: T.bl, w'.heap[b]? = w.heap[b]?) : Kept w' t O T :=
  ⟨⟨(hb t (by simp)).trans h.top.1, h.top.2.on fun b hk => hb b (by simp [hk])⟩, h.nodup, h.sorted, h.ok, h.rr, h.black, h.apart⟩
theorem kept_lt {w : World} {t : Nat} {O : Nat → Prop} {T : Tr} (h : Kept w t O T) : ∀ b ∈ t :: T.bl, b < w.heap.size := by
  intro b hb
  rcases List.mem_cons.1 hb with rfl | hb
  · exact h.top.lt
  · exact h.top.2.lt b hb
theorem Ql.fresh {w w' : World} {q m t : Nat} {O : Nat → Prop} {T : Tr} {st : St} (h : Ql w q m t O T st) (hg : Below w.heap.size w w') : Ql w' q m t O T st :=
  ⟨h.blk.on (hg.block q h.blk.lt), h.map.fresh hg, kept_on h.kept fun b hb => hg.block b (kept_lt h.kept b hb), h.keys, h.oq, h.om, h.qm⟩
theorem Qu.fresh {w w' : World} {q : Nat} {O : Nat → Prop} {st : St} (h : Qu w q O st) (hg : Below w.heap.size w w') : Qu w' q O st := by
  obtain ⟨m, t, T, h⟩ := h
  exact ⟨m, t, T, h.fresh hg⟩
theorem Qu.lt {w : World} {q : Nat} {O : Nat → Prop} {st : St} (h : Qu w q O st) : q < w.heap.size := by obtain ⟨m, t, T, h⟩ := h; exact h.blk.lt
theorem Qu.out {w : World} {q : Nat} {O : Nat → Prop} {st : St} (h : Qu w q O st) : ¬ O q := by obtain ⟨m, t, T, h⟩ := h; exact h.oq
/-- Other blocks are held apart from now on. -/
theorem Qu.other {w : World} {q : Nat} {O O' : Nat → Prop} {st : St} (h : Qu w q O st) (hO : ∀ k, O' k → O k ∨ w.heap.size ≤ k) : Qu w q O' st := by
  obtain ⟨m, t, T, h⟩ := h
  have key : ∀ k, k < w.heap.size → ¬ O k → ¬ O' k := fun k h1 h2 h3 => (hO k h3).elim h2 (by omega)
  refine ⟨m, t, T, h.blk, h.map, ?_, h.keys, key _ h.blk.lt h.oq, key _ h.map.lt h.om, h.qm⟩
  have k := h.kept
  refine ⟨k.top, k.nodup, k.sorted, k.ok, k.rr, k.black, fun b hb e => ?_⟩
  rcases e with e | e
  · exact key b (kept_lt k b hb) (fun e2 => k.apart b hb (.inl e2)) e
  · exact k.apart b hb (.inr e)

/-! ### an entity in its place -/
def insE (e : Ent) : List Ent → List Ent
  | [] => [e]
  | x :: l => if lt e.key x.key then e :: x :: l else x :: insE e l
theorem insE_key (e : Ent) (l : List Ent) : (insE e l).map Ent.key = ins e.key (l.map Ent.key) := by
  induction l with
  | nil => rfl
  | cons x l ih =>
    simp only [insE, List.map_cons, ins]
    split <;> simp [ih]
theorem insE_perm (e : Ent) (l : List Ent) : (insE e l).Perm (e :: l) := by
  induction l with
  | nil => exact .rfl
  | cons x l ih =>
    unfold insE
    split
    · exact .rfl
    · exact (ih.cons x).trans (List.Perm.swap e x l)
theorem drop_key {es : List Ent} (ho : Once es) {e : Ent} (he : e ∈ es) : (drop es e.id).map Ent.key = but e.key (es.map Ent.key) := by
  unfold drop but
  rw [List.filter_map]
  congr 1
  apply List.filter_congr
  intro x hx
  simp only [Function.comp]
  by_cases h : x.id = e.id
  · have := once_eq ho hx he h
    subst this
    simp
  · have : x.key ≠ e.key := fun k => h (congrArg Prod.snd k)
    simp [h, this]
theorem once_perm {a b : List Ent} (h : a.Perm b) (ho : Once a) : Once b := (h.pairwise_iff (fun {_ _} hne => Ne.symm hne)).1 ho
theorem once_ins {e : Ent} {es : List Ent} (ho : Once es) (hn : named es e.id = false) : Once (insE e es) := by
  refine once_perm (insE_perm e es).symm (List.pairwise_cons.2 ⟨fun x hx he => ?_, ho⟩)
  have : named es e.id = true := List.any_eq_true.2 ⟨x, hx, by simp [he]⟩
  rw [hn] at this; cases this
theorem once_drop {es : List Ent} (ho : Once es) (id : Int) : Once (drop es id) := List.Pairwise.filter _ ho
theorem key_named {es : List Ent} {e : Ent} (h : e.key ∈ es.map Ent.key) : named es e.id = true := by
  obtain ⟨x, hx, hk⟩ := List.mem_map.1 h
  exact List.any_eq_true.2 ⟨x, hx, by have := congrArg Prod.snd hk; simpa [Ent.key] using this⟩
end Go.Proofs.Yteoemafdknmklaa.Queue
