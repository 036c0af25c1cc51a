/- Entities in a map by their numbers: how the map lies in memory, and what is looked up, put and deleted. Conditions: none. -/
import Derived.Test.YtnnjbonejbmgdaaGreatPkD
import Derived.Maps.OwnSet
import Derived.Maps.RangeWalk
import Derived.Maps.Ext
import Derived.Test.YtnnjbonejbmgdaaGreatPkC
import Derived.Deep.RegionHeld3
import Derived.Test.YtnnjbonejbmgdaaGreatPkA
import Derived.Defers
import Derived.Recover
namespace Go.Proofs.YtnnjbonejbmgdaaGreat.Queue
open Go.ChangeShapes Go.WideShapes Go.ChangeAt Go.RowKit Tree
set_option linter.unusedVariables false
set_option linter.unusedSimpArgs false
set_option maxRecDepth 100000

/-- An entity. -/
structure Ent where
  id : Int
  wt : Int
  v : Int
  rm : Int
deriving DecidableEq
def Ent.zero : Ent := ⟨0, 0, 0, 0⟩
def Ent.val (e : Ent) : Value := .agg #[.int .i64 e.id, .int .u64 e.wt, .int .i64 e.v, .int .u64 e.rm]
def Ent.key (e : Ent) : Ky := (e.v, e.id)
def Ent.datum (e : Ent) : DataW Unit := .agg [.lit (.int .i64 e.id), .lit (.int .u64 e.wt), .lit (.int .i64 e.v), .lit (.int .u64 e.rm)]
def entR : Value → Option (DataW Unit × List MemPlace)
  | .agg cs => match cs.toList with
    | [.int .i64 a, .int .u64 b, .int .i64 c, .int .u64 d] => some ((Ent.mk a b c d).datum, [])
    | _ => none
  | _ => none
theorem entR_mk (e : Ent) : entR e.val = some (e.datum, []) := rfl
theorem entR_inv {v : Value} {z : DataW Unit × List MemPlace} (h : entR v = some z) : ∃ e : Ent, v = e.val ∧ z = (e.datum, []) := by
  unfold entR at h
  split at h
  · rename_i cs
    split at h
    · rename_i a b c d he
      cases h
      refine ⟨⟨a, b, c, d⟩, ?_, rfl⟩
      have : cs = #[.int .i64 a, .int .u64 b, .int .i64 c, .int .u64 d] := by rw [← Array.toList_inj]; exact he
      rw [this]; rfl
    · cases h
  · cases h
theorem datum_inj {a b : Ent} (h : a.datum = b.datum) : a = b := by
  cases a; cases b
  simp [Ent.datum] at h
  simp [h]

abbrev mapT : TypeId := 133
theorem underMap : Tryz.prog.underlying mapT = some (.map 3 34) := by kernel_rfl
theorem underInt : Tryz.prog.underlying 3 = some (.int .i64) := by kernel_rfl
theorem law : Maps.Keyed Tryz.prog 3 := Maps.int_keyed underInt
theorem zeroE (w : World) : (zeroValue 34).run Tryz.prog w = .ok Ent.zero.val w := by kernel_rfl
def I64 (x : Int) : Prop := -9223372036854775808 ≤ x ∧ x ≤ 9223372036854775807
theorem wf_of {x : Int} (h : I64 x) : (Lit.int .i64 x).wf = true := by unfold I64 at h; exact WalkArith.wf_i64 h
theorem keyInt {x : Int} (h : I64 x) : keyOf Tryz.prog 3 (.int .i64 x) = some (.int .i64 x) := Maps.keyOf_int_mk underInt (wf_of h)
theorem keyLit (x : Int) : WideAt.IsKeyLit (.int .i64 x) := trivial
theorem keyNe {x y : Int} (h : x ≠ y) : (Lit.int .i64 x) ≠ (Lit.int .i64 y) := fun e => h (by cases e; rfl)

/-- One of these has that number. -/
def named (es : List Ent) (id : Int) : Bool := es.any fun e => e.id == id
/-- The one of that number. -/
def find (es : List Ent) (id : Int) : Ent := (es.find? fun e => e.id == id).getD Ent.zero
theorem find_of {es : List Ent} {id : Int} (h : named es id = true) : find es id ∈ es ∧ (find es id).id = id := by
  unfold named at h
  unfold find
  obtain ⟨e, he, hid⟩ := List.any_eq_true.1 h
  cases hf : es.find? (fun e => e.id == id) with
  | none => rw [List.find?_eq_none] at hf; exact absurd hid (hf e he)
  | some x => exact ⟨List.mem_of_find?_eq_some hf, by have := List.find?_some hf; simpa using this⟩
theorem find_not {es : List Ent} {id : Int} (h : named es id = false) : find es id = Ent.zero := by
  unfold named at h
  unfold find
  have : es.find? (fun e => e.id == id) = none := by
    rw [List.find?_eq_none]
    intro x hx hid
    rw [List.any_eq_false] at h
    exact h x hx hid
  rw [this]; rfl
/-- Numbers are told once. -/
def Once (es : List Ent) : Prop := es.Pairwise fun a b => a.id ≠ b.id
theorem once_eq {es : List Ent} (h : Once es) {a b : Ent} (ha : a ∈ es) (hb : b ∈ es) (e : a.id = b.id) : a = b := by
  induction es with
  | nil => simp at ha
  | cons x l ih =>
    unfold Once at h
    rw [List.pairwise_cons] at h
    rcases List.mem_cons.1 ha with ha' | ha' <;> rcases List.mem_cons.1 hb with hb' | hb'
    · rw [ha', hb']
    · subst ha'; exact absurd e (h.1 b hb')
    · subst hb'; exact absurd e.symm (h.1 a ha')
    · exact ih h.2 ha' hb'
theorem find_mem {es : List Ent} (h : Once es) {e : Ent} (he : e ∈ es) : find es e.id = e := by
  have hn : named es e.id = true := List.any_eq_true.2 ⟨e, he, by simp⟩
  obtain ⟨h1, h2⟩ := find_of hn
  exact once_eq h h1 he h2

/-- A map of entities at block m. -/
def Mp (w : World) (m : Nat) (es : List Ent) : Prop :=
  ∃ D : DataW Unit, w.ownsMap Tryz.prog 3 entR m es.length D ∧ Maps.size D = es.length ∧ (∀ id, Maps.has D (.int .i64 id) = named es id) ∧ (∀ e ∈ es, ∀ z, D.atKey (.int .i64 e.id) z = e.datum)
theorem Mp.lt {w : World} {m : Nat} {es : List Ent} (h : Mp w m es) : m < w.heap.size := by obtain ⟨D, h1, _⟩ := h; exact h1.lt
theorem Mp.on {w w' : World} {m : Nat} {es : List Ent} (h : Mp w m es) (e : w'.heap[m]? = w.heap[m]?) : Mp w' m es := by
  obtain ⟨D, ⟨x, c, h1, h2⟩, h3⟩ := h
  exact ⟨D, ⟨x, c, e.trans h1, h2⟩, h3⟩
theorem Mp.fresh {w w' : World} {m : Nat} {es : List Ent} (h : Mp w m es) (hg : Below w.heap.size w w') : Mp w' m es := h.on (hg.block m h.lt)
theorem named_perm {es es' : List Ent} (hp : es.Perm es') (id : Int) : named es id = named es' id := by
  unfold named
  exact Bool.eq_iff_iff.2 (by rw [List.any_eq_true, List.any_eq_true]; exact ⟨fun ⟨x, h1, h2⟩ => ⟨x, hp.mem_iff.1 h1, h2⟩, fun ⟨x, h1, h2⟩ => ⟨x, hp.mem_iff.2 h1, h2⟩⟩)
theorem Mp.perm {w : World} {m : Nat} {es es' : List Ent} (h : Mp w m es) (hp : es.Perm es') : Mp w m es' := by
  obtain ⟨D, h1, h2, h3, h4⟩ := h
  exact ⟨D, hp.length_eq ▸ h1, h2.trans hp.length_eq, fun id => (h3 id).trans (named_perm hp id), fun e he => h4 e (hp.mem_iff.2 he)⟩
theorem tight {w : World} {m n : Nat} {D : DataW Unit} (h : w.ownsMap Tryz.prog 3 entR m n D) : w.ownsMap Tryz.prog 3 entR m (Maps.size D) D := by
  obtain ⟨es, c, h1, h2, h3, rfl⟩ := h
  exact ⟨es, c, h1, h2, by simp [Maps.size, length_sorted], rfl⟩
theorem Mp.made (w : World) : Mp (w.alloc (.map #[] 0)) w.heap.size [] :=
  ⟨.map [], World.ownsMap_made w Tryz.prog 3 entR, rfl, fun id => rfl, fun e he => by simp at he⟩

/-- 'e, is := m[id]' and 'm[id]'. -/
theorem Mp.look {w : World} {m : Nat} {es : List Ent} (h : Mp w m es) {id : Int} (hid : I64 id) :
    (Instr.lookup mapT (.map (some m)) (.int .i64 id) true).run Tryz.prog w = .ok (.tuple #[(find es id).val, .bool (named es id)]) w := by
  obtain ⟨D, h1, h2, h3, h4⟩ := h
  obtain ⟨v, ps, hrun, hv⟩ := h1.look_ok law underMap (zeroE w) (entR_mk Ent.zero) (keyInt hid)
  obtain ⟨e, rfl, he⟩ := entR_inv hv
  rw [h3 id] at hrun
  rw [hrun]
  congr 4
  cases hn : named es id
  · rw [Maps.atKey_of_not_has ((h3 id).trans hn)] at he
    rw [find_not hn]
    exact congrArg Ent.val (datum_inj (congrArg Prod.fst he)).symm
  · obtain ⟨f1, f2⟩ := find_of hn
    have := h4 _ f1 Ent.zero.datum
    rw [f2] at this
    rw [this] at he
    exact congrArg Ent.val (datum_inj (congrArg Prod.fst he)).symm
theorem Mp.look1 {w : World} {m : Nat} {es : List Ent} (h : Mp w m es) {id : Int} (hid : I64 id) :
    (Instr.lookup mapT (.map (some m)) (.int .i64 id) false).run Tryz.prog w = .ok (find es id).val w := by
  obtain ⟨D, h1, h2, h3, h4⟩ := h
  obtain ⟨v, ps, hrun, hv⟩ := h1.lookup law underMap (zeroE w) (entR_mk Ent.zero) (keyInt hid)
  obtain ⟨e, rfl, he⟩ := entR_inv hv
  rw [hrun]
  congr 1
  cases hn : named es id
  · rw [Maps.atKey_of_not_has ((h3 id).trans hn)] at he
    rw [find_not hn]
    exact congrArg Ent.val (datum_inj (congrArg Prod.fst he)).symm
  · obtain ⟨f1, f2⟩ := find_of hn
    have := h4 _ f1 Ent.zero.datum
    rw [f2] at this
    rw [this] at he
    exact congrArg Ent.val (datum_inj (congrArg Prod.fst he)).symm
theorem Mp.len {w : World} {m : Nat} {es : List Ent} (h : Mp w m es) (ty : TypeId) : (Builtin.len_ #[mapT] ty #[.map (some m)]).run Tryz.prog w = .ok (.int .i64 (es.length : Int)) w := by
  obtain ⟨D, h1, h2, h3, h4⟩ := h
  rw [h1.len underMap ty, h2]
/-- 'm[e.id] = e' of one that is not there. -/
theorem Mp.put {w : World} {m : Nat} {es : List Ent} (h : Mp w m es) {e : Ent} (hid : I64 e.id) (hn : named es e.id = false) (hl : es.length ≤ 1000) :
    ∃ w', (Instr.mapUpdate mapT (.map (some m)) (.int .i64 e.id) e.val).run Tryz.prog w = .ok () w' ∧ Mp w' m (e :: es) ∧ w.mapTurned w' m := by
  obtain ⟨D, h1, h2, h3, h4⟩ := h
  obtain ⟨w', hrun, ho, ht⟩ := h1.store law underMap (by unfold maxLen; omega) (keyInt hid) (entR_mk e)
  refine ⟨w', hrun, ⟨D.put (.int .i64 e.id) e.datum, ho, ?_, ?_, ?_⟩, ht⟩
  · rw [Maps.size_put (h1.tidy law), (h3 e.id).trans hn]; simp [h2]
  · intro id
    by_cases hx : id = e.id
    · subst hx
      rw [Maps.has_put_same h1.isMap (keyLit _)]; simp [named]
    · rw [Maps.has_put_other (keyNe hx), h3 id]
      have : (e.id == id) = false := by simpa using fun e2 => hx e2.symm
      simp [named, this]
  · intro x hx z
    rcases List.mem_cons.1 hx with rfl | hx
    · exact Maps.atKey_put_same h1.isMap (keyLit _) _ _
    · have hne : x.id ≠ e.id := fun e2 => by
        have : named es e.id = true := List.any_eq_true.2 ⟨x, hx, by simp [e2]⟩
        rw [hn] at this; cases this
      rw [Maps.atKey_put_other (keyNe hne)]
      exact h4 x hx z
/-- All but the one of that number. -/
def drop (es : List Ent) (id : Int) : List Ent := es.filter fun e => decide (e.id ≠ id)
theorem named_drop (es : List Ent) (id j : Int) : named (drop es id) j = (named es j && decide (j ≠ id)) := by
  unfold named drop
  rw [List.any_filter]
  induction es with
  | nil => simp
  | cons x l ih =>
    simp only [List.any_cons, ih]
    by_cases h1 : x.id = j
    · subst h1
      by_cases h2 : x.id = id <;> simp [h2]
    · have : (x.id == j) = false := by simpa using h1
      simp [this]
theorem len_drop {es : List Ent} (h : Once es) {id : Int} (hn : named es id = true) : (drop es id).length + 1 = es.length := by
  induction es with
  | nil => simp [named] at hn
  | cons x l ih =>
    unfold Once at h
    rw [List.pairwise_cons] at h
    unfold drop
    rw [List.filter_cons]
    by_cases hx : x.id = id
    · have : l.filter (fun e => decide (e.id ≠ id)) = l := by
        rw [List.filter_eq_self]
        intro y hy
        simp
        exact fun e => h.1 y hy (by rw [hx, e])
      rw [if_neg (by simp [hx]), this]
      simp
    · have hl : named l id = true := by
        unfold named at hn ⊢
        rw [List.any_cons, show (x.id == id) = false by simpa using hx, Bool.false_or] at hn
        exact hn
      have := ih h.2 hl
      unfold drop at this
      rw [if_pos (by simp [hx]), List.length_cons, this, List.length_cons]
/-- 'delete(m, id)' of one that is there. -/
theorem Mp.del {w : World} {m : Nat} {es : List Ent} (h : Mp w m es) {id : Int} (hid : I64 id) (ho : Once es) (hn : named es id = true) (ty : TypeId) :
    ∃ w', (Builtin.delete_ #[mapT, 3] ty #[.map (some m), .int .i64 id]).run Tryz.prog w = .ok (.tuple #[]) w' ∧ Mp w' m (drop es id) ∧ w.mapTurned w' m := by
  obtain ⟨D, h1, h2, h3, h4⟩ := h
  obtain ⟨w', hrun, hown, ht⟩ := h1.drop law underMap (keyInt hid) ty
  have hs : Maps.size (D.del (.int .i64 id)) = (drop es id).length := by
    have e1 := Maps.size_del (k := .int .i64 id) (h1.tidy law)
    rw [(h3 id).trans hn] at e1
    have e2 := len_drop ho hn
    simp at e1
    omega
  refine ⟨w', hrun, ⟨D.del (.int .i64 id), hs ▸ tight hown, hs, ?_, ?_⟩, ht⟩
  · intro j
    rw [named_drop]
    by_cases hx : j = id
    · subst hx
      rw [Maps.has_del_same]; simp
    · rw [Maps.has_del_other (keyNe hx), h3 j]
      simp [hx]
  · intro x hx z
    unfold drop at hx
    rw [List.mem_filter] at hx
    have hne : x.id ≠ id := by simpa using hx.2
    rw [Maps.atKey_del_other (keyNe hne)]
    exact h4 x hx.1 z
/-- 'm[e.id] = e' of one that is there. -/
theorem Mp.set {w : World} {m : Nat} {es : List Ent} (h : Mp w m es) {e : Ent} (hid : I64 e.id) (ho : Once es) (hn : named es e.id = true) (hl : es.length ≤ 1000) :
    ∃ w', (Instr.mapUpdate mapT (.map (some m)) (.int .i64 e.id) e.val).run Tryz.prog w = .ok () w' ∧ Mp w' m (e :: drop es e.id) ∧ w.mapTurned w' m := by
  obtain ⟨D, h1, h2, h3, h4⟩ := h
  obtain ⟨w', hrun, hown, ht⟩ := h1.store law underMap (by unfold maxLen; omega) (keyInt hid) (entR_mk e)
  have hs : Maps.size (D.put (.int .i64 e.id) e.datum) = (e :: drop es e.id).length := by
    rw [Maps.size_put (h1.tidy law), (h3 e.id).trans hn, List.length_cons, len_drop ho hn]
    simpa using h2
  refine ⟨w', hrun, ⟨D.put (.int .i64 e.id) e.datum, hs ▸ tight hown, hs, ?_, ?_⟩, ht⟩
  · intro j
    by_cases hx : j = e.id
    · subst hx
      rw [Maps.has_put_same h1.isMap (keyLit _)]; simp [named]
    · rw [Maps.has_put_other (keyNe hx), h3 j]
      have : (e.id == j) = false := by simpa using fun e2 => hx e2.symm
      have e3 := named_drop es e.id j
      simp only [named, List.any_cons, this, Bool.false_or] at e3 ⊢
      rw [e3]; simp [hx]
  · intro x hx z
    rcases List.mem_cons.1 hx with rfl | hx
    · exact Maps.atKey_put_same h1.isMap (keyLit _) _ _
    · unfold drop at hx
      rw [List.mem_filter] at hx
      have hne : x.id ≠ e.id := by simpa using hx.2
      rw [Maps.atKey_put_other (keyNe hne)]
      exact h4 x hx.1 z
end Go.Proofs.YtnnjbonejbmgdaaGreat.Queue

/- How a queue of entities lies in memory. Conditions: none. -/
namespace Go.Proofs.YtnnjbonejbmgdaaGreat.Queue
open Go.ChangeShapes Go.WideShapes Go.ChangeAt Go.RowKit Tree
set_option linter.unusedVariables false
set_option linter.unusedSimpArgs false
set_option maxRecDepth 100000

/-- A queue. -/
structure St where
  es : List Ent
  cur : Int
  min : Int
  flag : Bool

/-- What is in the blocks of O is as it was. -/
structure Same (O : Nat → Prop) (w w' : World) : Prop where
  os : w'.os = w.os
  tape : w'.tape = w.tape
  output : w'.output = w.output
  size : w.heap.size ≤ w'.heap.size
  block : ∀ k, O k → w'.heap[k]? = w.heap[k]?
theorem Same.refl (O : Nat → Prop) (w : World) : Same O w w := ⟨rfl, rfl, rfl, Nat.le_refl _, fun _ _ => rfl⟩
theorem Same.trans {O : Nat → Prop} {a b c : World} (h : Same O a b) (k : Same O b c) : Same O a c :=
  ⟨k.os.trans h.os, k.tape.trans h.tape, k.output.trans h.output, Nat.le_trans h.size k.size, fun i hi => (k.block i hi).trans (h.block i hi)⟩
theorem Same.mono {O O' : Nat → Prop} {a b : World} (h : Same O a b) (k : ∀ i, O' i → O i) : Same O' a b := ⟨h.os, h.tape, h.output, h.size, fun i hi => h.block i (k i hi)⟩
theorem Same.of {O : Nat → Prop} {a b : World} (h : Below a.heap.size a b) (k : ∀ i, O i → i < a.heap.size) : Same O a b := ⟨h.os, h.tape, h.output, h.size, fun i hi => h.block i (k i hi)⟩
theorem Same.chg {O B : Nat → Prop} {a b : World} (h : Chg B a b) (k : ∀ i, O i → i < a.heap.size) (hn : ∀ i, O i → ¬ B i) : Same O a b := ⟨h.os, h.tape, h.output, h.size, fun i hi => h.block i (k i hi) (hn i hi)⟩
theorem Same.below {a b : World} {B : Nat} (h : Same (· < B) a b) : Below B a b := ⟨h.os, h.tape, h.output, h.size, h.block⟩
theorem Same.grown {O : Nat → Prop} {w w' : World} {row : Nat} (hg : w.grownBy w' (some row)) (hB : ∀ k, O k → k < w.heap.size) (hr : ¬ O row) : Same O w w' :=
  ⟨hg.os, hg.tape, hg.output, hg.size, fun k hk => hg.block k (hB k hk) (fun e => hr (by cases e; exact hk))⟩
theorem Same.setCell {O : Nat → Prop} {w : World} {p : Addr} (hp : ¬ O p.block) (u : Value) : Same O w (w.setCell p u) :=
  ⟨rfl, rfl, rfl, by simp [World.setCell], fun k hk => Below.heap_setCell _ _ _ _ (fun e => hp (e ▸ hk))⟩

/-- A queue's own block. -/
def Qb (w : World) (q m t : Nat) (cur mn : Int) (fl : Bool) : Prop :=
  w.heap[q]? = some (.cells #[.map (some m), .pointer (some ⟨t, 0, none⟩), .int .i64 cur, .int .i64 mn, .bool fl] 137 (0, 0))
theorem Qb.lt {w : World} {q m t : Nat} {cur mn : Int} {fl : Bool} (h : Qb w q m t cur mn fl) : q < w.heap.size := lt_of h
theorem Qb.on {w w' : World} {q m t : Nat} {cur mn : Int} {fl : Bool} (h : Qb w q m t cur mn fl) (e : w'.heap[q]? = w.heap[q]?) : Qb w' q m t cur mn fl := e.trans h
theorem Qb.cells {w : World} {q m t : Nat} {cur mn : Int} {fl : Bool} (h : Qb w q m t cur mn fl) :
    w.cell? ⟨q, 0, none⟩ = some (.map (some m)) ∧ w.cell? ⟨q, 1, none⟩ = some (.pointer (some ⟨t, 0, none⟩)) ∧ w.cell? ⟨q, 2, none⟩ = some (.int .i64 cur) ∧ w.cell? ⟨q, 3, none⟩ = some (.int .i64 mn) ∧ w.cell? ⟨q, 4, none⟩ = some (.bool fl) ∧
    (∀ j, w.frozen? ⟨q, j, none⟩ = false) := by
  unfold Qb at h
  refine ⟨?_, ?_, ?_, ?_, ?_, fun j => frozen_of_row w q j _ _ h⟩
  all_goals rw [cell_of_row w q _ _ _ _ h]; rfl
theorem Qb.setCur {w : World} {q m t : Nat} {cur mn : Int} {fl : Bool} (h : Qb w q m t cur mn fl) (u : Int) : Qb (w.setCell ⟨q, 2, none⟩ (.int .i64 u)) q m t u mn fl := by unfold Qb at *; rw [heap_setCell_same w q 2 _ _ _ h]; rfl
theorem Qb.setMin {w : World} {q m t : Nat} {cur mn : Int} {fl : Bool} (h : Qb w q m t cur mn fl) (u : Int) : Qb (w.setCell ⟨q, 3, none⟩ (.int .i64 u)) q m t cur u fl := by unfold Qb at *; rw [heap_setCell_same w q 3 _ _ _ h]; rfl
theorem Qb.setFlag {w : World} {q m t : Nat} {cur mn : Int} {fl : Bool} (h : Qb w q m t cur mn fl) (u : Bool) : Qb (w.setCell ⟨q, 4, none⟩ (.bool u)) q m t cur mn u := by unfold Qb at *; rw [heap_setCell_same w q 4 _ _ _ h]; rfl

/-- All of a queue. -/
structure Ql (w : World) (q m t : Nat) (O : Nat → Prop) (T : Tr) (st : St) : Prop where
  blk : Qb w q m t st.cur st.min st.flag
  map : Mp w m st.es
  kept : Kept w t (fun b => O b ∨ b = q ∨ b = m) T
  keys : T.keys = st.es.map Ent.key
  oq : ¬ O q
  om : ¬ O m
  qm : q ≠ m
def Qu (w : World) (q : Nat) (O : Nat → Prop) (st : St) : Prop := ∃ m t T, Ql w q m t O T st

theorem kept_on {w w' : World} {t : Nat} {O : Nat → Prop} {T : Tr} (h : Kept w t O T) (hb : ∀ b ∈ t :: T.bl, w'.heap[b]? = w.heap[b]?) : Kept w' t O T :=
  ⟨⟨(hb t (by simp)).trans h.top.1, h.top.2.on fun b hk => hb b (by simp [hk])⟩, h.nodup, h.sorted, h.ok, h.rr, h.black, h.apart⟩
theorem kept_lt {w : World} {t : Nat} {O : Nat → Prop} {T : Tr} (h : Kept w t O T) : ∀ b ∈ t :: T.bl, b < w.heap.size := by
  intro b hb
  rcases List.mem_cons.1 hb with rfl | hb
  · exact h.top.lt
  · exact h.top.2.lt b hb
theorem Ql.fresh {w w' : World} {q m t : Nat} {O : Nat → Prop} {T : Tr} {st : St} (h : Ql w q m t O T st) (hg : Below w.heap.size w w') : Ql w' q m t O T st :=
  ⟨h.blk.on (hg.block q h.blk.lt), h.map.fresh hg, kept_on h.kept fun b hb => hg.block b (kept_lt h.kept b hb), h.keys, h.oq, h.om, h.qm⟩
theorem Qu.fresh {w w' : World} {q : Nat} {O : Nat → Prop} {st : St} (h : Qu w q O st) (hg : Below w.heap.size w w') : Qu w' q O st := by
  obtain ⟨m, t, T, h⟩ := h
  exact ⟨m, t, T, h.fresh hg⟩
theorem Qu.lt {w : World} {q : Nat} {O : Nat → Prop} {st : St} (h : Qu w q O st) : q < w.heap.size := by obtain ⟨m, t, T, h⟩ := h; exact h.blk.lt
theorem Qu.out {w : World} {q : Nat} {O : Nat → Prop} {st : St} (h : Qu w q O st) : ¬ O q := by obtain ⟨m, t, T, h⟩ := h; exact h.oq
/-- Other blocks are held apart from now on. -/
theorem Qu.other {w : World} {q : Nat} {O O' : Nat → Prop} {st : St} (h : Qu w q O st) (hO : ∀ k, O' k → O k ∨ w.heap.size ≤ k) : Qu w q O' st := by
  obtain ⟨m, t, T, h⟩ := h
  have key : ∀ k, k < w.heap.size → ¬ O k → ¬ O' k := fun k h1 h2 h3 => (hO k h3).elim h2 (by omega)
  refine ⟨m, t, T, h.blk, h.map, ?_, h.keys, key _ h.blk.lt h.oq, key _ h.map.lt h.om, h.qm⟩
  have k := h.kept
  refine ⟨k.top, k.nodup, k.sorted, k.ok, k.rr, k.black, fun b hb e => ?_⟩
  rcases e with e | e
  · exact key b (kept_lt k b hb) (fun e2 => k.apart b hb (.inl e2)) e
  · exact k.apart b hb (.inr e)

/-! ### an entity in its place -/
def insE (e : Ent) : List Ent → List Ent
  | [] => [e]
  | x :: l => if lt e.key x.key then e :: x :: l else x :: insE e l
theorem insE_key (e : Ent) (l : List Ent) : (insE e l).map Ent.key = ins e.key (l.map Ent.key) := by
  induction l with
  | nil => rfl
  | cons x l ih =>
    simp only [insE, List.map_cons, ins]
    split <;> simp [ih]
theorem insE_perm (e : Ent) (l : List Ent) : (insE e l).Perm (e :: l) := by
  induction l with
  | nil => exact .rfl
  | cons x l ih =>
    unfold insE
    split
    · exact .rfl
    · exact (ih.cons x).trans (List.Perm.swap e x l)
theorem drop_key {es : List Ent} (ho : Once es) {e : Ent} (he : e ∈ es) : (drop es e.id).map Ent.key = but e.key (es.map Ent.key) := by
  unfold drop but
  rw [List.filter_map]
  congr 1
  apply List.filter_congr
  intro x hx
  simp only [Function.comp]
  by_cases h : x.id = e.id
  · have := once_eq ho hx he h
    subst this
    simp
  · have : x.key ≠ e.key := fun k => h (congrArg Prod.snd k)
    simp [h, this]
theorem once_perm {a b : List Ent} (h : a.Perm b) (ho : Once a) : Once b := (h.pairwise_iff (fun {_ _} hne => Ne.symm hne)).1 ho
theorem once_ins {e : Ent} {es : List Ent} (ho : Once es) (hn : named es e.id = false) : Once (insE e es) := by
  refine once_perm (insE_perm e es).symm (List.pairwise_cons.2 ⟨fun x hx he => ?_, ho⟩)
  have : named es e.id = true := List.any_eq_true.2 ⟨x, hx, by simp [he]⟩
  rw [hn] at this; cases this
theorem once_drop {es : List Ent} (ho : Once es) (id : Int) : Once (drop es id) := List.Pairwise.filter _ ho
theorem key_named {es : List Ent} {e : Ent} (h : e.key ∈ es.map Ent.key) : named es e.id = true := by
  obtain ⟨x, hx, hk⟩ := List.mem_map.1 h
  exact List.any_eq_true.2 ⟨x, hx, by have := congrArg Prod.snd hk; simpa [Ent.key] using this⟩
end Go.Proofs.YtnnjbonejbmgdaaGreat.Queue

/- What the small calls of package runq do: made, find, keyOf, lay, take. Conditions: each number is one of its kind. -/
namespace Go.Proofs.YtnnjbonejbmgdaaGreat.Queue
open Go.ChangeShapes Go.WideShapes Go.ChangeAt Go.RowKit Tree
set_option linter.unusedVariables false
set_option linter.unusedSimpArgs false
set_option maxRecDepth 100000

theorem map_neq (m : Nat) (w : World) : Sem.run Tryz.prog (binOp BinOp.neq 133 (.map (some m)) (.map none)) w = .ok (.bool true) w := by kernel_rfl
theorem made_nil (w : World) : Calls Tryz.prog 105 #[.pointer none] w (Still (.bool false) w) := by
  go_enter Tryz.func105, Tryz.ntmps105
  go_wp2
  go_ret; exact ⟨rfl, rfl⟩
theorem made (w : World) (q : Nat) (O : Nat → Prop) (st : St) (h : Qu w q O st) : Calls Tryz.prog 105 #[.pointer (some ⟨q, 0, none⟩)] w (Still (.bool true) w) := by
  obtain ⟨m, t, T, h⟩ := h
  obtain ⟨c0, c1, c2, c3, c4, fz⟩ := h.blk.cells
  clear h
  have hne := map_neq m
  go_enter Tryz.func105, Tryz.ntmps105
  go_wp2
  go_ret; exact ⟨rfl, rfl⟩
theorem keyOfs (w : World) (e : Ent) : Calls Tryz.prog 149 #[e.val] w (Is (.agg #[.int .i64 e.v, .int .i64 e.id]) w) := by
  obtain ⟨a, b, c, d⟩ := e
  simp only [Ent.val]
  go_enter Tryz.func149, Tryz.ntmps149
  go_wp2
  refine bodyPost_ret (v := .agg #[.int .i64 c, .int .i64 a]) (by simp [results, Tryz.results149, go_sem]) rfl ?_
  exact ⟨rfl, by go_grown⟩
theorem finds_nil (w : World) (id : Int) : Calls Tryz.prog 109 #[.pointer none, .int .i64 id] w (Is (.tuple #[Ent.zero.val, .bool false]) w) := by
  simp only [Ent.val, Ent.zero]
  go_enter Tryz.func109, Tryz.ntmps109
  go_wp2_with (go_at_call 105; refine (made_nil _).mono ?_; rintro e w1 ⟨rfl, rfl⟩)
  refine bodyPost_ret (v := .tuple #[.agg #[.int .i64 0, .int .u64 0, .int .i64 0, .int .u64 0], .bool false]) (by simp [results, Tryz.results109, go_sem]) rfl ?_
  exact ⟨rfl, by go_grown⟩
theorem finds (w : World) (q : Nat) (O : Nat → Prop) (st : St) (id : Int) (h : Qu w q O st) (hid : I64 id) :
    Calls Tryz.prog 109 #[.pointer (some ⟨q, 0, none⟩), .int .i64 id] w (Is (.tuple #[(find st.es id).val, .bool (named st.es id)]) w) := by
  have M := Lib.hid (fun w' (g : Below w.heap.size w w') => made w' q O st (h.fresh g))
  obtain ⟨m, t, T, h⟩ := h
  obtain ⟨c0, c1, c2, c3, c4, fz⟩ := h.blk.cells
  have hq := h.blk.lt
  have L := Lib.hid (fun w' (g : Below w.heap.size w w') => (h.map.fresh g).look hid)
  generalize find st.es id = fe at *
  obtain ⟨ea, eb, ec, ed⟩ := fe
  simp only [Ent.val, mapT] at L ⊢
  generalize named st.es id = nm at *
  clear h
  have hg := (Below.refl w.heap.size w).alloc (Nat.le_refl _) (.cells #[.int .i64 0, .int .u64 0, .int .i64 0, .int .u64 0] 34)
  have l1 := L.out _ hg
  go_enter Tryz.func109, Tryz.ntmps109
  go_wp2_with (go_at_call 105; refine (M.out _ hg).mono ?_; rintro e w1 ⟨rfl, rfl⟩)
  refine bodyPost_ret (v := .tuple #[.agg #[.int .i64 ea, .int .u64 eb, .int .i64 ec, .int .u64 ed], .bool nm]) (by simp [results, Tryz.results109, go_sem]) rfl ?_
  exact ⟨rfl, by go_grown⟩

/-- Nothing is told, and the queue is another one. -/
def Goes (st : St) (q : Nat) (O : Nat → Prop) (w : World) (e : Ending) (w' : World) : Prop := e = .returned (.tuple #[]) ∧ Qu w' q O st ∧ Same O w w'

/-- What is behind the store into the map, and behind Insert. -/
theorem laid {w W w1 w2 w3 : World} {q m t : Nat} {O : Nat → Prop} {T : Tr} {st : St} {e : Ent} (h : Ql w q m t O T st) (hO : ∀ k, O k → k < w.heap.size) (hn : named st.es e.id = false) (gW : Below w.heap.size w W) (hm : Mp w1 m (e :: st.es)) (ht : W.mapTurned w1 m) (g2 : Below w1.heap.size w1 w2) :
    Kept w2 t (fun b => O b ∨ b = q ∨ b = m) T ∧ (∀ b, (O b ∨ b = q ∨ b = m) → b < w2.heap.size) ∧ e.key ∉ T.keys ∧
    ∀ e' w3, Ins e.key t (fun b => O b ∨ b = q ∨ b = m) T w2 e' w3 → (Qu w3 q O { st with es := insE e st.es } ∧ Same O w w3) ∧ ∀ b, b < w2.heap.size → (b = q ∨ w.heap.size ≤ b) → w3.heap[b]? = w2.heap[b]? := by
  have hg := ht.grown
  have b1 : ∀ b, b < w.heap.size → b ≠ m → w2.heap[b]? = w.heap[b]? := fun b hb hbm => by
    have s1 : b < W.heap.size := Nat.lt_of_lt_of_le hb gW.size
    rw [g2.block b (Nat.lt_of_lt_of_le s1 hg.size), hg.block b s1 (fun e => hbm (by cases e; rfl)), gW.block b hb]
  have hs : w.heap.size ≤ w2.heap.size := Nat.le_trans gW.size (Nat.le_trans hg.size g2.size)
  have k2 : Kept w2 t (fun b => O b ∨ b = q ∨ b = m) T := kept_on h.kept fun b hb => b1 b (kept_lt h.kept b hb) (fun e => h.kept.apart b hb (.inr (.inr e)))
  have hkn : e.key ∉ T.keys := fun hk => by
    rw [h.keys] at hk
    rw [key_named hk] at hn
    cases hn
  refine ⟨k2, ?_, hkn, ?_⟩
  · rintro b (hb | rfl | rfl)
    · exact Nat.lt_of_lt_of_le (hO b hb) hs
    · exact Nat.lt_of_lt_of_le h.blk.lt hs
    · exact Nat.lt_of_lt_of_le h.map.lt hs
  · rintro e' w3 ⟨T', rfl, k3, hk3, c3⟩
    have hqB : ∀ b, b < w2.heap.size → (O b ∨ b = q ∨ b = m) → w3.heap[b]? = w2.heap[b]? := fun b hb hm => c3.block b hb (fun e => h.kept.apart b (by rcases e with rfl | e <;> simp_all) hm)
    refine ⟨⟨⟨m, t, T', ?_, ?_, k3, ?_, h.oq, h.om, h.qm⟩, ?_⟩, fun b hb hx => c3.block b hb (fun e => ?_)⟩
    · exact h.blk.on ((hqB q (Nat.lt_of_lt_of_le h.blk.lt hs) (.inr (.inl rfl))).trans (b1 q h.blk.lt h.qm))
    · exact (((hm.fresh g2).on (hqB m (hm.fresh g2).lt (.inr (.inr rfl)))).perm (insE_perm e st.es).symm)
    · rw [hk3, h.keys]; exact (insE_key e st.es).symm
    · refine ⟨?_, ?_, ?_, Nat.le_trans hs c3.size, fun k hk => ?_⟩
      · rw [c3.os, g2.os, hg.os, gW.os]
      · rw [c3.tape, g2.tape, hg.tape, gW.tape]
      · rw [c3.output, g2.output, hg.output, gW.output]
      · rw [hqB k (Nat.lt_of_lt_of_le (hO k hk) hs) (.inl hk), b1 k (hO k hk) (fun e => h.om (e ▸ hk))]
    · have hbl : b ∈ t :: T.bl := by rcases e with rfl | e <;> simp_all
      rcases hx with rfl | hx
      · exact h.kept.apart _ hbl (.inr (.inl rfl))
      · have := kept_lt h.kept b hbl
        omega
set_option maxHeartbeats 2000000 in
theorem lays (w : World) (q : Nat) (O : Nat → Prop) (st : St) (e : Ent) (h : Qu w q O st) (hO : ∀ k, O k → k < w.heap.size) (hid : I64 e.id) (hn : named st.es e.id = false) (hl : st.es.length ≤ 500) :
    Calls Tryz.prog 115 #[.pointer (some ⟨q, 0, none⟩), e.val] w (Goes { st with es := insE e st.es } q O w) := by
  obtain ⟨m, t, T, h⟩ := h
  have hgW := (Below.refl w.heap.size w).alloc (Nat.le_refl _) (.cells #[.int .i64 e.id, .int .u64 e.wt, .int .i64 e.v, .int .u64 e.rm] 34)
  obtain ⟨w1, hrun, hmp, hturn⟩ := ((h.map.fresh hgW).on (show (w.alloc (.cells #[.int .i64 e.id, .int .u64 e.wt, .int .i64 e.v, .int .u64 e.rm] 34)).drew.heap[m]? = _ from rfl)).put hid hn (by omega)
  have hturn' : (w.alloc (.cells #[.int .i64 e.id, .int .u64 e.wt, .int .i64 e.v, .int .u64 e.rm] 34)).drew.mapTurned w1 m := hturn
  have hgd : Below w.heap.size w (w.alloc (.cells #[.int .i64 e.id, .int .u64 e.wt, .int .i64 e.v, .int .u64 e.rm] 34)).drew := hgW.drew
  have L := Lib.hid (fun w2 g2 => laid (w2 := w2) (w3 := w2) h hO hn hgd hmp hturn' g2)
  have I := Lib.hid (fun w2 (k : Kept w2 t (fun b => O b ∨ b = q ∨ b = m) T) (hk : e.key ∉ T.keys) hOb => inserts w2 t (fun b => O b ∨ b = q ∨ b = m) T e.key k hk hOb (by rw [h.keys]; simpa using Nat.le_trans hl (by omega)))
  obtain ⟨c0, c1, c2, c3, c4, fz⟩ := h.blk.cells
  have hq := h.blk.lt
  have hqm := h.qm
  have gt := hturn.grown
  obtain ⟨n0, n1, n2, n3, nz, nn⟩ := new_four (Below.refl _ (w.alloc (.cells #[.int .i64 e.id, .int .u64 e.wt, .int .i64 e.v, .int .u64 e.rm] 34)))
  have hml := h.map.lt
  have hbx : w.heap.size < (w.alloc (.cells #[.int .i64 e.id, .int .u64 e.wt, .int .i64 e.v, .int .u64 e.rm] 34)).heap.size := lt_of nn
  have at1 : ∀ b, b < w.heap.size + 1 → b ≠ m → w1.heap[b]? = (w.alloc (.cells #[.int .i64 e.id, .int .u64 e.wt, .int .i64 e.v, .int .u64 e.rm] 34)).heap[b]? := fun b hb hbm => gt.block b (by simp [World.drew]; omega) (fun e => hbm (by cases e; rfl))
  have x1 : w1.cell? ⟨q, 1, none⟩ = some (.pointer (some ⟨t, 0, none⟩)) := (World.cell?_of_block (at1 q (by omega) hqm)).trans ((hgW.cell (p := ⟨q, 1, none⟩) hq).trans c1)
  have y0 := (World.cell?_of_block (a := ⟨w.heap.size, 0, none⟩) (at1 w.heap.size (by omega) (by omega))).trans n0
  have y1 := (World.cell?_of_block (a := ⟨w.heap.size, 1, none⟩) (at1 w.heap.size (by omega) (by omega))).trans n1
  have y2 := (World.cell?_of_block (a := ⟨w.heap.size, 2, none⟩) (at1 w.heap.size (by omega) (by omega))).trans n2
  have y3 := (World.cell?_of_block (a := ⟨w.heap.size, 3, none⟩) (at1 w.heap.size (by omega) (by omega))).trans n3
  have hl1 : w.heap.size < w1.heap.size := Nat.lt_of_lt_of_le hbx gt.size
  have hq1 : q < w1.heap.size := by omega
  have KO := Lib.hid (fun w => keyOfs w e)
  clear h gt at1 nn nz hmp hturn hturn' hO hn
  obtain ⟨ea, eb, ec, ed⟩ := e
  simp only [Ent.val, mapT, Ent.key] at *
  go_enter Tryz.func115, Tryz.ntmps115
  go_wp2_with fail
  go_region
  all_goals
    go_wp2_with fail
    go_region_held3 (fun w' => w'.cell? ⟨q, 1, none⟩ = some (.pointer (some ⟨t, 0, none⟩)) ∧ w'.cell? ⟨w.heap.size, 0, none⟩ = some (.int .i64 ea) ∧ w'.cell? ⟨w.heap.size, 1, none⟩ = some (.int .u64 eb) ∧ w'.cell? ⟨w.heap.size, 2, none⟩ = some (.int .i64 ec) ∧ w'.cell? ⟨w.heap.size, 3, none⟩ = some (.int .u64 ed))
      (first | exact ⟨x1, y0, y1, y2, y3⟩ | exact ⟨z1, u0, u1, u2, u3⟩ | exact ⟨r1, s0, s1, s2, s3⟩)
      (first
        | (go_at_call 149; refine (KO.out _).mono ?_; rintro e' w2 ⟨rfl, hg2⟩; replace hg2 := undrew hg2; have z1 := (hg2.cell (p := ⟨q, 1, none⟩) hq1).trans x1; have u0 := (hg2.cell (p := ⟨w.heap.size, 0, none⟩) hl1).trans y0; have u1 := (hg2.cell (p := ⟨w.heap.size, 1, none⟩) hl1).trans y1; have u2 := (hg2.cell (p := ⟨w.heap.size, 2, none⟩) hl1).trans y2; have u3 := (hg2.cell (p := ⟨w.heap.size, 3, none⟩) hl1).trans y3)
        | (go_at_call 152; refine (I.out _ (L.out _ hg2).1 (L.out _ hg2).2.2.1 (L.out _ hg2).2.1).mono ?_; rintro e' w3 hi; obtain ⟨e1, e2⟩ := (L.out _ hg2).2.2.2 _ _ hi; obtain ⟨T', rfl, _⟩ := hi; have Q := Lib.hid e1; have hq2 := Nat.lt_of_lt_of_le hq1 hg2.size; have hl2 := Nat.lt_of_lt_of_le hl1 hg2.size; have r1 := (World.cell?_of_block (a := ⟨q, 1, none⟩) (e2 q hq2 (.inl rfl))).trans z1; have s0 := (World.cell?_of_block (a := ⟨w.heap.size, 0, none⟩) (e2 _ hl2 (.inr (Nat.le_refl _)))).trans u0; have s1 := (World.cell?_of_block (a := ⟨w.heap.size, 1, none⟩) (e2 _ hl2 (.inr (Nat.le_refl _)))).trans u1; have s2 := (World.cell?_of_block (a := ⟨w.heap.size, 2, none⟩) (e2 _ hl2 (.inr (Nat.le_refl _)))).trans u2; have s3 := (World.cell?_of_block (a := ⟨w.heap.size, 3, none⟩) (e2 _ hl2 (.inr (Nat.le_refl _)))).trans u3; clear e1 e2))
    go_wp2_with fail
    go_end0
    exact ⟨rfl, Q.out⟩
end Go.Proofs.YtnnjbonejbmgdaaGreat.Queue

/- What take of package runq does. Conditions: each number is one of its kind. -/
namespace Go.Proofs.YtnnjbonejbmgdaaGreat.Queue
open Go.ChangeShapes Go.WideShapes Go.ChangeAt Go.RowKit Tree
set_option linter.unusedVariables false
set_option linter.unusedSimpArgs false
set_option maxRecDepth 100000

/-- What is behind the delete from the map, and behind Delete. -/
theorem gone {w W w1 w2 w3 : World} {q m t : Nat} {O : Nat → Prop} {T : Tr} {st : St} {e : Ent} (h : Ql w q m t O T st) (hO : ∀ k, O k → k < w.heap.size) (ho : Once st.es) (he : e ∈ st.es) (gW : Below w.heap.size w W) (hm : Mp w1 m (drop st.es e.id)) (ht : W.mapTurned w1 m) (g2 : Below w1.heap.size w1 w2) :
    Kept w2 t (fun b => O b ∨ b = q ∨ b = m) T ∧ (∀ b, (O b ∨ b = q ∨ b = m) → b < w2.heap.size) ∧ e.key ∈ T.keys ∧
    ∀ e' w3, Del e.key t (fun b => O b ∨ b = q ∨ b = m) T w2 e' w3 → (Qu w3 q O { st with es := drop st.es e.id } ∧ Same O w w3) ∧ ∀ b, b < w2.heap.size → (b = q ∨ w.heap.size ≤ b) → w3.heap[b]? = w2.heap[b]? := by
  have hg := ht.grown
  have b1 : ∀ b, b < w.heap.size → b ≠ m → w2.heap[b]? = w.heap[b]? := fun b hb hbm => by
    have s1 : b < W.heap.size := Nat.lt_of_lt_of_le hb gW.size
    rw [g2.block b (Nat.lt_of_lt_of_le s1 hg.size), hg.block b s1 (fun e => hbm (by cases e; rfl)), gW.block b hb]
  have hs : w.heap.size ≤ w2.heap.size := Nat.le_trans gW.size (Nat.le_trans hg.size g2.size)
  have k2 : Kept w2 t (fun b => O b ∨ b = q ∨ b = m) T := kept_on h.kept fun b hb => b1 b (kept_lt h.kept b hb) (fun e => h.kept.apart b hb (.inr (.inr e)))
  have hkn : e.key ∈ T.keys := by
    rw [h.keys]
    exact List.mem_map.2 ⟨e, he, rfl⟩
  refine ⟨k2, ?_, hkn, ?_⟩
  · rintro b (hb | rfl | rfl)
    · exact Nat.lt_of_lt_of_le (hO b hb) hs
    · exact Nat.lt_of_lt_of_le h.blk.lt hs
    · exact Nat.lt_of_lt_of_le h.map.lt hs
  · rintro e' w3 ⟨T', rfl, k3, hk3, c3⟩
    have hqB : ∀ b, b < w2.heap.size → (O b ∨ b = q ∨ b = m) → w3.heap[b]? = w2.heap[b]? := fun b hb hm => c3.block b hb (fun e => h.kept.apart b (by rcases e with rfl | e <;> simp_all) hm)
    refine ⟨⟨⟨m, t, T', ?_, ?_, k3, ?_, h.oq, h.om, h.qm⟩, ?_⟩, fun b hb hx => c3.block b hb (fun e => ?_)⟩
    · exact h.blk.on ((hqB q (Nat.lt_of_lt_of_le h.blk.lt hs) (.inr (.inl rfl))).trans (b1 q h.blk.lt h.qm))
    · exact (hm.fresh g2).on (hqB m (hm.fresh g2).lt (.inr (.inr rfl)))
    · rw [hk3, h.keys]; exact (drop_key ho he).symm
    · refine ⟨?_, ?_, ?_, Nat.le_trans hs c3.size, fun k hk => ?_⟩
      · rw [c3.os, g2.os, hg.os, gW.os]
      · rw [c3.tape, g2.tape, hg.tape, gW.tape]
      · rw [c3.output, g2.output, hg.output, gW.output]
      · rw [hqB k (Nat.lt_of_lt_of_le (hO k hk) hs) (.inl hk), b1 k (hO k hk) (fun e => h.om (e ▸ hk))]
    · have hbl : b ∈ t :: T.bl := by rcases e with rfl | e <;> simp_all
      rcases hx with rfl | hx
      · exact h.kept.apart _ hbl (.inr (.inl rfl))
      · have := kept_lt h.kept b hbl
        omega
set_option maxHeartbeats 2000000 in
theorem dels (w : World) (q : Nat) (O : Nat → Prop) (st : St) (e : Ent) (h : Qu w q O st) (hO : ∀ k, O k → k < w.heap.size) (hid : I64 e.id) (ho : Once st.es) (he : e ∈ st.es) (hl : st.es.length ≤ 500) :
    Calls Tryz.prog 112 #[.pointer (some ⟨q, 0, none⟩), e.val] w (Goes { st with es := drop st.es e.id } q O w) := by
  obtain ⟨m, t, T, h⟩ := h
  have hgW := (Below.refl w.heap.size w).alloc (Nat.le_refl _) (.cells #[.int .i64 e.id, .int .u64 e.wt, .int .i64 e.v, .int .u64 e.rm] 34)
  obtain ⟨w1, hrun, hmp, hturn⟩ := ((h.map.fresh hgW).on (show (w.alloc (.cells #[.int .i64 e.id, .int .u64 e.wt, .int .i64 e.v, .int .u64 e.rm] 34)).drew.heap[m]? = _ from rfl)).del hid ho (List.any_eq_true.2 ⟨e, he, by simp⟩) 0
  have hturn' : (w.alloc (.cells #[.int .i64 e.id, .int .u64 e.wt, .int .i64 e.v, .int .u64 e.rm] 34)).drew.mapTurned w1 m := hturn
  have hgd : Below w.heap.size w (w.alloc (.cells #[.int .i64 e.id, .int .u64 e.wt, .int .i64 e.v, .int .u64 e.rm] 34)).drew := hgW.drew
  have L := Lib.hid (fun w2 g2 => gone (w2 := w2) (w3 := w2) h hO ho he hgd hmp hturn' g2)
  have I := Lib.hid (fun w2 (k : Kept w2 t (fun b => O b ∨ b = q ∨ b = m) T) (hk : e.key ∈ T.keys) => deletes w2 t (fun b => O b ∨ b = q ∨ b = m) T e.key k hk (by rw [h.keys]; simpa using Nat.le_trans hl (by omega)))
  obtain ⟨c0, c1, c2, c3, c4, fz⟩ := h.blk.cells
  have hq := h.blk.lt
  have hqm := h.qm
  have gt := hturn.grown
  obtain ⟨n0, n1, n2, n3, nz, nn⟩ := new_four (Below.refl _ (w.alloc (.cells #[.int .i64 e.id, .int .u64 e.wt, .int .i64 e.v, .int .u64 e.rm] 34)))
  have hml := h.map.lt
  have hbx : w.heap.size < (w.alloc (.cells #[.int .i64 e.id, .int .u64 e.wt, .int .i64 e.v, .int .u64 e.rm] 34)).heap.size := lt_of nn
  have at1 : ∀ b, b < w.heap.size + 1 → b ≠ m → w1.heap[b]? = (w.alloc (.cells #[.int .i64 e.id, .int .u64 e.wt, .int .i64 e.v, .int .u64 e.rm] 34)).heap[b]? := fun b hb hbm => gt.block b (by simp [World.drew]; omega) (fun e => hbm (by cases e; rfl))
  have x1 : w1.cell? ⟨q, 1, none⟩ = some (.pointer (some ⟨t, 0, none⟩)) := (World.cell?_of_block (at1 q (by omega) hqm)).trans ((hgW.cell (p := ⟨q, 1, none⟩) hq).trans c1)
  have y0 := (World.cell?_of_block (a := ⟨w.heap.size, 0, none⟩) (at1 w.heap.size (by omega) (by omega))).trans n0
  have y1 := (World.cell?_of_block (a := ⟨w.heap.size, 1, none⟩) (at1 w.heap.size (by omega) (by omega))).trans n1
  have y2 := (World.cell?_of_block (a := ⟨w.heap.size, 2, none⟩) (at1 w.heap.size (by omega) (by omega))).trans n2
  have y3 := (World.cell?_of_block (a := ⟨w.heap.size, 3, none⟩) (at1 w.heap.size (by omega) (by omega))).trans n3
  have hl1 : w.heap.size < w1.heap.size := Nat.lt_of_lt_of_le hbx gt.size
  have hq1 : q < w1.heap.size := by omega
  have KO := Lib.hid (fun w => keyOfs w e)
  clear h gt at1 nn nz hmp hturn hturn' hO ho he
  obtain ⟨ea, eb, ec, ed⟩ := e
  simp only [Ent.val, mapT, Ent.key] at *
  go_enter Tryz.func112, Tryz.ntmps112
  go_wp2_with fail
  go_region
  all_goals
    go_wp2_with fail
    go_region_held3 (fun w' => w'.cell? ⟨q, 1, none⟩ = some (.pointer (some ⟨t, 0, none⟩)) ∧ w'.cell? ⟨w.heap.size, 0, none⟩ = some (.int .i64 ea) ∧ w'.cell? ⟨w.heap.size, 1, none⟩ = some (.int .u64 eb) ∧ w'.cell? ⟨w.heap.size, 2, none⟩ = some (.int .i64 ec) ∧ w'.cell? ⟨w.heap.size, 3, none⟩ = some (.int .u64 ed))
      (first | exact ⟨x1, y0, y1, y2, y3⟩ | exact ⟨z1, u0, u1, u2, u3⟩ | exact ⟨r1, s0, s1, s2, s3⟩)
      (first
        | (go_at_call 149; refine (KO.out _).mono ?_; rintro e' w2 ⟨rfl, hg2⟩; replace hg2 := undrew hg2; have z1 := (hg2.cell (p := ⟨q, 1, none⟩) hq1).trans x1; have u0 := (hg2.cell (p := ⟨w.heap.size, 0, none⟩) hl1).trans y0; have u1 := (hg2.cell (p := ⟨w.heap.size, 1, none⟩) hl1).trans y1; have u2 := (hg2.cell (p := ⟨w.heap.size, 2, none⟩) hl1).trans y2; have u3 := (hg2.cell (p := ⟨w.heap.size, 3, none⟩) hl1).trans y3)
        | (go_at_call 148; refine (I.out _ (L.out _ hg2).1 (L.out _ hg2).2.2.1).mono ?_; rintro e' w3 hi; obtain ⟨e1, e2⟩ := (L.out _ hg2).2.2.2 _ _ hi; obtain ⟨T', rfl, _⟩ := hi; have Q := Lib.hid e1; have hq2 := Nat.lt_of_lt_of_le hq1 hg2.size; have hl2 := Nat.lt_of_lt_of_le hl1 hg2.size; have r1 := (World.cell?_of_block (a := ⟨q, 1, none⟩) (e2 q hq2 (.inl rfl))).trans z1; have s0 := (World.cell?_of_block (a := ⟨w.heap.size, 0, none⟩) (e2 _ hl2 (.inr (Nat.le_refl _)))).trans u0; have s1 := (World.cell?_of_block (a := ⟨w.heap.size, 1, none⟩) (e2 _ hl2 (.inr (Nat.le_refl _)))).trans u1; have s2 := (World.cell?_of_block (a := ⟨w.heap.size, 2, none⟩) (e2 _ hl2 (.inr (Nat.le_refl _)))).trans u2; have s3 := (World.cell?_of_block (a := ⟨w.heap.size, 3, none⟩) (e2 _ hl2 (.inr (Nat.le_refl _)))).trans u3; clear e1 e2))
    go_wp2_with fail
    go_end0
    exact ⟨rfl, Q.out⟩
end Go.Proofs.YtnnjbonejbmgdaaGreat.Queue

/- What raise of package runq does, as a deferred call. Conditions: none. -/
namespace Go.Proofs.YtnnjbonejbmgdaaGreat.Queue
open Go.ChangeShapes Go.WideShapes Go.ChangeAt Go.RowKit Tree
set_option linter.unusedVariables false
set_option linter.unusedSimpArgs false
set_option maxRecDepth 100000

/-- The least vruntime made higher by the first one's. -/
def rise (st : St) : St := match st.es with
  | [] => st
  | e :: _ => { st with min := max st.min e.v }
theorem higher1 (a v : Int) (w : World) (g : Nat) (hg : g < w.heap.size) (hc : w.cell? ⟨g, 0, none⟩ = some (.int .i64 v)) : Calls Tryz.prog 147 #[.int .i64 a, .slice (some ⟨g, 0, none⟩) 1 1] w (Still (.int .i64 (max a v)) w) := by
  have hl : Renorm.Lies (some ⟨g, 0, none⟩) 1 (fun _ => v) w := by
    intro j hj
    obtain rfl : j = 0 := by omega
    exact ⟨g, 0, rfl, hg, hc⟩
  have := Renorm.highers a (some ⟨g, 0, none⟩) 1 1 (fun _ => v) w (by omega) hl
  refine this.mono ?_
  rintro e w' ⟨rfl, rfl⟩
  exact ⟨by rw [Renorm.hi_some]; rfl, rfl⟩
def Rose (st : St) (q : Nat) (O : Nat → Prop) (u : FrameMode) (w : World) (e : Ending) (u' : FrameMode) (w' : World) : Prop := u' = u ∧ (e = .returned (.tuple #[]) ∧ Qu w' q O (rise st) ∧ Same O w w')
theorem Ql.setMin {w w' : World} {q m t : Nat} {O : Nat → Prop} {T : Tr} {st : St} (h : Ql w q m t O T st) (hg : Below w.heap.size w w') (x : Int) : Ql (w'.setCell ⟨q, 3, none⟩ (.int .i64 x)) q m t O T { st with min := x } := by
  have h' := h.fresh hg
  refine ⟨h'.blk.setMin x, h'.map.on (Below.heap_setCell _ _ _ _ (fun e => h.qm e.symm)), kept_on h'.kept fun b hb => Below.heap_setCell _ _ _ _ (fun e => h.kept.apart b hb (.inr (.inl e))), h.keys, h.oq, h.om, h.qm⟩
theorem raises (w : World) (q : Nat) (O : Nat → Prop) (st : St) (u : FrameMode) (h : Qu w q O st) (hO : ∀ k, O k → k < w.heap.size) :
    CallsD Tryz.prog 111 #[.pointer (some ⟨q, 0, none⟩)] u w (Rose st q O u w) := by
  obtain ⟨m, t, T, h⟩ := h
  have M := Lib.hid (fun w' (g : Below w.heap.size w w') => mins w' t T (h.fresh g).kept.top)
  rw [h.keys] at M
  obtain ⟨c0, c1, c2, c3, c4, fz⟩ := h.blk.cells
  have hq := h.blk.lt
  have hg := Below.refl w.heap.size w
  unfold Rose
  obtain ⟨es, cur, mn, fl⟩ := st
  cases es with
  | nil =>
    simp only [rise, List.map_nil, List.head?_nil, keyV] at *
    have H := Lib.hid (fun w' (g : Below w.heap.size w w') => (show Qu w' q O ⟨[], cur, mn, fl⟩ from ⟨m, t, T, h.fresh g⟩))
    clear h
    go_enter_d Tryz.func111, Tryz.ntmps111
    go_wp2_with (go_at_call 146; refine (M.out _ hg).mono ?_; rintro e w1 ⟨rfl, hg1⟩)
    go_end0
    have hs := hg1.size
    exact ⟨rfl, H.out _ (by go_grown), Same.of (by go_grown) hO⟩
  | cons e l =>
    simp only [rise, List.map_cons, List.head?_cons, keyV, Ent.key] at *
    have H := Lib.hid (fun w' (g : Below w.heap.size w w') x => (show Qu (w'.setCell ⟨q, 3, none⟩ (.int .i64 x)) q O ⟨e :: l, cur, x, fl⟩ from ⟨m, t, T, h.setMin g x⟩))
    have ho := h.oq
    clear h
    generalize e.v = ev at *
    generalize e.id = ei at *
    have HI := Lib.hid (fun w g hg hc => higher1 mn ev w g hg hc)
    generalize max mn ev = mx at *
    go_enter_d Tryz.func111, Tryz.ntmps111
    go_wp2_with (go_at_call 146; refine (M.out _ hg).mono ?_; rintro e w1 ⟨rfl, hg1⟩)
    have hs := hg1.size
    have x3 := (hg1.cell (p := ⟨q, 3, none⟩) hq).trans c3
    have xf : ∀ j, w1.frozen? ⟨q, j, none⟩ = false := fun j => (hg1.frozen (p := ⟨q, j, none⟩) hq).trans (fz j)
    have hgW : Below w.heap.size w (w1.alloc (.cells #[.int .i64 ev, .int .i64 ei] 155)) := fresh_trans hg1 ((Below.refl _ w1).alloc (Nat.le_refl _) _)
    obtain ⟨n0, n1, nz, nn⟩ := new_two (Below.refl _ (w1.alloc (.cells #[.int .i64 ev, .int .i64 ei] 155)))
    have y3 := (hgW.cell (p := ⟨q, 3, none⟩) hq).trans c3
    have yf : ∀ j, (w1.alloc (.cells #[.int .i64 ev, .int .i64 ei] 155)).frozen? ⟨q, j, none⟩ = false := fun j => (hgW.frozen (p := ⟨q, j, none⟩) hq).trans (fz j)
    have hl := lt_of nn
    have hqW : q < (w1.alloc (.cells #[.int .i64 ev, .int .i64 ei] 155)).heap.size := by omega
    clear x3 xf nn nz n1 M c0 c1 c2 c3 c4 fz
    generalize w1.alloc (.cells #[.int .i64 ev, .int .i64 ei] 155) = W at *
    generalize w1.heap.size = s1 at *
    have hqne : ¬ q = W.heap.size := by omega
    go_region_with (go_at_call 147; refine (HI.out _ _ (by simp) (by go_simp)).mono ?_; rintro e' w2 ⟨rfl, rfl⟩)
    all_goals
      go_wp2_with fail
      go_end0
      have hf : Below (W.setCell ⟨q, 3, none⟩ (.int .i64 mx)).heap.size (W.setCell ⟨q, 3, none⟩ (.int .i64 mx)) ((W.setCell ⟨q, 3, none⟩ (.int .i64 mx)).alloc (.cells #[.int .i64 ev] 2)).drew := ((Below.refl _ _).alloc (Nat.le_refl _) _).drew
      exact ⟨rfl, (H.out W hgW mx).fresh hf, ((Same.of hgW hO).trans (Same.setCell (p := ⟨q, 3, none⟩) ho _)).trans (Same.of hf (fun k hk => by have := hO k hk; have := hgW.size; simp [World.setCell]; omega))⟩
end Go.Proofs.YtnnjbonejbmgdaaGreat.Queue

/- What New, mayBe, mayPut and Put of package runq do. Conditions: each number is one of its kind. -/
namespace Go.Proofs.YtnnjbonejbmgdaaGreat.Queue
open Go.ChangeShapes Go.WideShapes Go.ChangeAt Go.RowKit Tree
set_option linter.unusedVariables false
set_option linter.unusedSimpArgs false
set_option maxRecDepth 100000

theorem mayBes (x r : Int) (w : World) (hx : 0 ≤ x) (hr : 0 ≤ r) : Calls Tryz.prog 125 #[.int .u64 x, .int .u64 r] w (Is (.int .i64 (Vrun.cerr x r 0)) w) := by
  have C := Lib.hid (fun w => Vrun.charge x r 0 w hx hr (by omega))
  generalize Vrun.cval x r 0 = a at *
  generalize Vrun.crem x r 0 = b at *
  generalize Vrun.cerr x r 0 = c at *
  go_enter Tryz.func125, Tryz.ntmps125
  go_wp2_with (go_at_call 110; refine (C.out _).mono ?_; rintro e w1 ⟨rfl, hg⟩)
  go_ret; exact ⟨rfl, hg⟩
/-- Why an entity may not be put, or 0. -/
def errPut (es : List Ent) (e : Ent) : Int :=
  if e.id < 0 then 1 else if Vrun.cerr e.wt e.rm 0 ≠ 0 then Vrun.cerr e.wt e.rm 0 else if named es e.id then 6 else if 128 ≤ es.length then 3 else 0
set_option maxHeartbeats 2000000 in
theorem mayPuts (w : World) (q : Nat) (O : Nat → Prop) (st : St) (e : Ent) (h : Qu w q O st) (hid : I64 e.id) (hw : 0 ≤ e.wt) (hr : 0 ≤ e.rm) (hl : st.es.length ≤ 500) :
    Calls Tryz.prog 124 #[.pointer (some ⟨q, 0, none⟩), e.val] w (Is (.int .i64 (errPut st.es e)) w) := by
  have B := Lib.hid (fun w => mayBes e.wt e.rm w hw hr)
  obtain ⟨m, t, T, h⟩ := h
  obtain ⟨c0, c1, c2, c3, c4, fz⟩ := h.blk.cells
  have hq := h.blk.lt
  have L := Lib.hid (fun w' (g : Below w.heap.size w w') => (h.map.fresh g).look hid)
  have N := Lib.hid (fun w' (g : Below w.heap.size w w') ty => (h.map.fresh g).len ty)
  unfold errPut
  generalize st.es.length = len at *
  generalize find st.es e.id = fe at *
  generalize named st.es e.id = nm at *
  generalize Vrun.cerr e.wt e.rm 0 = er at *
  obtain ⟨ea, eb, ec, ed⟩ := e
  obtain ⟨fa, fb, fc, fd⟩ := fe
  simp only [Ent.val, mapT] at *
  have hgW := (Below.refl w.heap.size w).alloc (Nat.le_refl _) (.cells #[.int .i64 ea, .int .u64 eb, .int .i64 ec, .int .u64 ed] 34)
  clear h
  by_cases h0 : ea < 0
  · rw [if_pos h0]
    go_enter Tryz.func124, Tryz.ntmps124
    go_wp2_with fail
    go_ret; exact ⟨rfl, hgW⟩
  rw [if_neg h0]
  by_cases h1 : er = 0
  · subst h1
    rw [if_neg (by simp)]
    have step : ∀ w1, Below w.heap.size w w1 → (Sem.run Tryz.prog (Instr.lookup 133 (.map (some m)) (.int .i64 ea) true) w1.drew = .ok (.tuple #[.agg #[.int .i64 fa, .int .u64 fb, .int .i64 fc, .int .u64 fd], .bool nm]) w1.drew) ∧
        (∀ o, Sem.run Tryz.prog (Instr.lookup 133 (.map (some m)) (.int .i64 ea) true) (w1.alloc o).drew = .ok (.tuple #[.agg #[.int .i64 fa, .int .u64 fb, .int .i64 fc, .int .u64 fd], .bool nm]) (w1.alloc o).drew) ∧
        (∀ o ty, Sem.run Tryz.prog (Builtin.len_ #[133] ty #[.map (some m)]) (w1.alloc o).drew = .ok (.int .i64 len) (w1.alloc o).drew) := fun w1 g => by
      have g2 := fun o => fresh_trans g ((Below.refl _ w1).alloc (Nat.le_refl _) o)
      exact ⟨L.out _ g.drew, fun o => L.out _ (g2 o).drew, fun o ty => N.out _ (g2 o).drew ty⟩
    have ST := Lib.hid step
    clear step L N
    cases nm
    · by_cases h2 : (128 : Int) ≤ len
      all_goals
        rw [show (if false = true then (6 : Int) else if 128 ≤ len then 3 else 0) = if (128 : Int) ≤ len then 3 else 0 by simp; congr 1; apply propext; omega]
        first
          | rw [if_pos h2]
          | rw [if_neg h2]
        go_enter Tryz.func124, Tryz.ntmps124
        go_wp2_with (go_at_call 125; refine (B.out _).mono ?_; rintro e w1 ⟨rfl, hg1⟩; obtain ⟨n0, n1, n2, n3, nz, nn⟩ := new_four hg1; replace hgW := fresh_trans hgW hg1; obtain ⟨l1, l2, l3⟩ := ST.out _ hgW; have x0 := (hgW.cell (p := ⟨q, 0, none⟩) hq).trans c0; have hlt1 := lt_of nn; have hq1 := Nat.lt_trans hq hlt1; clear hg1 nn nz)
        go_region
        all_goals
          go_wp2_with fail
          go_ret; exact ⟨rfl, fresh_trans hgW (((Below.refl _ _).alloc (Nat.le_refl _) _).drew)⟩
    · simp only [if_true]
      go_enter Tryz.func124, Tryz.ntmps124
      go_wp2_with (go_at_call 125; refine (B.out _).mono ?_; rintro e w1 ⟨rfl, hg1⟩; obtain ⟨n0, n1, n2, n3, nz, nn⟩ := new_four hg1; replace hgW := fresh_trans hgW hg1; obtain ⟨l1, l2, l3⟩ := ST.out _ hgW; have x0 := (hgW.cell (p := ⟨q, 0, none⟩) hq).trans c0; have hlt1 := lt_of nn; have hq1 := Nat.lt_trans hq hlt1; clear hg1 nn nz)
      go_region
      all_goals
        go_wp2_with fail
        go_ret; exact ⟨rfl, fresh_trans hgW (((Below.refl _ _).alloc (Nat.le_refl _) _).drew)⟩
  · rw [if_pos h1]
    have h2 : (er == 0) = false := by simpa using h1
    go_enter Tryz.func124, Tryz.ntmps124
    go_wp2_with (go_at_call 125; refine (B.out _).mono ?_; rintro e w1 ⟨rfl, hg1⟩; replace hgW := fresh_trans hgW hg1)
    go_ret; exact ⟨rfl, hgW⟩

/-- What is told, and the queue behind it. -/
def Did (v : Value) (st : St) (q : Nat) (O : Nat → Prop) (w : World) (e : Ending) (w' : World) : Prop := e = .returned v ∧ Qu w' q O st ∧ Same O w w'
def putS (st : St) (e : Ent) : St := if errPut st.es e = 0 then rise { st with es := insE e st.es } else st
theorem errPut_zero {es : List Ent} {e : Ent} (h : errPut es e = 0) : 0 ≤ e.id ∧ Vrun.cerr e.wt e.rm 0 = 0 ∧ named es e.id = false ∧ es.length < 128 := by
  unfold errPut at h
  split at h
  · cases h
  · split at h
    · rename_i h1; exact absurd h h1
    · split at h
      · cases h
      · split at h
        · cases h
        · rename_i a b c d
          exact ⟨by omega, by simpa using b, by simpa using c, by omega⟩
theorem put_nil (w : World) (e : Ent) : Calls Tryz.prog 82 #[.pointer none, e.val] w (Is (.int .i64 12) w) := by
  obtain ⟨ea, eb, ec, ed⟩ := e
  simp only [Ent.val]
  go_enter_defers Tryz.func82, Tryz.ntmps82
  go_wp2_with (go_at_call 105; refine (made_nil _).mono ?_; rintro e w1 ⟨rfl, rfl⟩)
  exact ⟨_, results_tmp rfl _ _ _, rfl, by go_grown⟩
set_option maxHeartbeats 2000000 in
theorem puts (w : World) (q : Nat) (O : Nat → Prop) (st : St) (e : Ent) (h : Qu w q O st) (hO : ∀ k, O k → k < w.heap.size) (hid : I64 e.id) (hw : 0 ≤ e.wt) (hr : 0 ≤ e.rm) (hl : st.es.length ≤ 500) :
    Calls Tryz.prog 82 #[.pointer (some ⟨q, 0, none⟩), e.val] w (Did (.int .i64 (errPut st.es e)) (putS st e) q O w) := by
  have H := Lib.hid (fun w' (g : Below w.heap.size w w') => h.fresh g)
  have M := Lib.hid (fun w' (g : Below w.heap.size w w') => made w' q O st (h.fresh g))
  have P := Lib.hid (fun w' (g : Below w.heap.size w w') => mayPuts w' q O st e (h.fresh g) hid hw hr hl)
  have hgW := (Below.refl w.heap.size w).alloc (Nat.le_refl _) (.cells #[.int .i64 e.id, .int .u64 e.wt, .int .i64 e.v, .int .u64 e.rm] 34)
  by_cases hz : errPut st.es e = 0
  · have LA := Lib.hid (fun w' (g : Below w.heap.size w w') => lays w' q O st e (h.fresh g) (fun k hk => Nat.lt_of_lt_of_le (hO k hk) g.size) hid (errPut_zero hz).2.2.1 hl)
    have RA := Lib.hid (fun w' u (h : Qu w' q O { st with es := insE e st.es }) hO => raises w' q O _ u h hO)
    have HO := Lib.hid hO
    rw [hz] at P
    unfold putS
    rw [if_pos hz, hz]
    clear h hz
    generalize ({ st with es := insE e st.es } : St) = st1 at *
    obtain ⟨ea, eb, ec, ed⟩ := e
    simp only [Ent.val] at *
    go_enter_defers Tryz.func82, Tryz.ntmps82
    go_wp2_with (first
      | (go_at_call 105; refine (M.out _ hgW).mono ?_; rintro e w1 ⟨rfl, rfl⟩)
      | (go_at_call 124; refine (P.out _ hgW).mono ?_; rintro e w1 ⟨rfl, hg1⟩; obtain ⟨n0, n1, n2, n3, nz, nn⟩ := new_four hg1; replace hgW := fresh_trans hgW hg1; clear hg1 nz nn)
      | (go_at_call 115; refine (LA.out _ hgW).mono ?_; rintro e w2 ⟨rfl, hq2, hs2⟩; have Q := Lib.hid hq2; have S := Lib.hid hs2; clear hq2 hs2))
    refine leaves_cons (f := 111) (args := #[.pointer (some ⟨q, 0, none⟩)]) (by simp) (by simp [go_sem]) ?_
    refine (RA.out _ .returning Q.out (fun k hk => Nat.lt_of_lt_of_le (HO.out k hk) (Nat.le_trans hgW.size S.out.size))).mono ?_
    rintro e u' w'' ⟨rfl, rfl, hq3, hs3⟩
    exact ⟨_, results_tmp rfl _ _ _, rfl, hq3, ((Same.of hgW HO.out).trans S.out).trans hs3⟩
  · have h2 : (errPut st.es e == 0) = false := by simpa using hz
    unfold putS
    rw [if_neg hz]
    clear h hz
    generalize errPut st.es e = er at *
    obtain ⟨ea, eb, ec, ed⟩ := e
    simp only [Ent.val] at *
    go_enter_defers Tryz.func82, Tryz.ntmps82
    go_wp2_with (first
      | (go_at_call 105; refine (M.out _ hgW).mono ?_; rintro e w1 ⟨rfl, rfl⟩)
      | (go_at_call 124; refine (P.out _ hgW).mono ?_; rintro e w1 ⟨rfl, hg1⟩; replace hgW := fresh_trans hgW hg1; clear hg1))
    exact ⟨_, results_tmp rfl _ _ _, rfl, H.out _ hgW, Same.of hgW hO⟩
end Go.Proofs.YtnnjbonejbmgdaaGreat.Queue

/- What ahead, firstOther and stayOrFirst of package runq answer. Conditions: each number is one of its kind. -/
namespace Go.Proofs.YtnnjbonejbmgdaaGreat.Queue
open Go.ChangeShapes Go.WideShapes Go.ChangeAt Go.RowKit Tree
set_option linter.unusedVariables false
set_option linter.unusedSimpArgs false
set_option maxRecDepth 100000

def reach (v g : Int) : Int := Fix.ends (v + Fix.hold g 0 1099511627776)
theorem aheads (v g : Int) (w : World) (hv : I64 v) (hg : I64 g) : Calls Tryz.prog 132 #[.int .i64 v, .int .i64 g] w (Is (.int .i64 (reach v g)) w) := by
  have m1 := Lib.hid (fun w => Fix.holds g 0 1099511627776 w)
  have m2 := Lib.hid (fun w => Fix.sat v (Fix.hold g 0 1099511627776) w hv (Fix.i64_hold hg (by unfold Fix.I64; omega) (by unfold Fix.I64; omega)))
  unfold reach
  generalize Fix.ends (v + Fix.hold g 0 1099511627776) = x at *
  generalize Fix.hold g 0 1099511627776 = y at *
  go_enter Tryz.func132, Tryz.ntmps132
  go_wp2_with (first
    | (go_at_call 160; refine (m1.out _).mono ?_; rintro e w1 ⟨rfl, rfl⟩)
    | (go_at_call 114; refine (m2.out _).mono ?_; rintro e w1 ⟨rfl, hg1⟩))
  go_ret; exact ⟨rfl, hg1⟩

/-- The first one but the current one. -/
def other (st : St) : Option Ent := (drop st.es st.cur).head?
theorem drop_none {es : List Ent} {id : Int} (h : named es id = false) : drop es id = es := by
  unfold drop
  rw [List.filter_eq_self]
  intro x hx
  simp
  rintro rfl
  unfold named at h
  rw [List.any_eq_false] at h
  exact h x hx (by simp)
theorem next_of {e : Ent} {l : List Ent} (hs : Sorted ((e :: l).map Ent.key)) : ((e :: l).map Ent.key).find? (fun x => decide (lt e.key x)) = l.head?.map Ent.key := by
  unfold Sorted at hs
  simp only [List.map_cons, List.pairwise_cons] at hs
  simp only [List.map_cons, List.find?_cons, lt_irrefl, decide_false]
  cases l with
  | nil => rfl
  | cons x l => simp [hs.1 x.key (by simp)]
theorem other_first {st : St} {e : Ent} {l : List Ent} (he : st.es = e :: l) (ho : Once st.es) : other st = if e.id = st.cur then l.head? else some e := by
  unfold other
  rw [he] at ho ⊢
  unfold Once at ho
  rw [List.pairwise_cons] at ho
  unfold drop
  rw [List.filter_cons]
  by_cases h : e.id = st.cur
  · rw [if_neg (by simp [h]), if_pos h]
    congr 1
    rw [List.filter_eq_self]
    intro x hx
    simp
    exact fun e2 => ho.1 x hx (by rw [h, e2])
  · rw [if_pos (by simp [h]), if_neg h]; rfl
set_option maxHeartbeats 2000000 in
theorem firstOthers (w : World) (q : Nat) (O : Nat → Prop) (st : St) (h : Qu w q O st) (ho : Once st.es) :
    Calls Tryz.prog 131 #[.pointer (some ⟨q, 0, none⟩)] w (Is (keyV ((other st).map Ent.key)) w) := by
  obtain ⟨m, t, T, h⟩ := h
  have M := Lib.hid (fun w' (g : Below w.heap.size w w') => mins w' t T (h.fresh g).kept.top)
  have N := Lib.hid (fun w' (g : Below w.heap.size w w') k => nexts w' t T k (h.fresh g).kept.top h.kept.sorted)
  rw [h.keys] at M N
  have hso := h.kept.sorted
  rw [h.keys] at hso
  obtain ⟨c0, c1, c2, c3, c4, fz⟩ := h.blk.cells
  have hq := h.blk.lt
  have hgW := (Below.refl w.heap.size w).alloc (Nat.le_refl _) (.cells #[.int .i64 0, .int .i64 0] 155)
  clear h
  cases he : st.es with
  | nil =>
    rw [show other st = none by simp [other, he, drop]]
    rw [he] at M
    simp only [List.map_nil, List.head?_nil, keyV, Option.map_none] at *
    go_enter Tryz.func131, Tryz.ntmps131
    go_wp2_with (go_at_call 146; refine (M.out _ hgW).mono ?_; rintro e w1 ⟨rfl, hg1⟩; obtain ⟨d0, d1, dz, dd⟩ := new_two hg1; replace hgW := fresh_trans hgW hg1; have hlt1 := lt_of dd; have x2 := (hgW.cell (p := ⟨q, 2, none⟩) hq).trans c2; clear hg1 dd)
    go_quiet (fail)
    have hg3 : Below w1.heap.size w1 ((w1.alloc (.cells #[.int .i64 0, .int .i64 0] 155)).drewN nq) := fresh_trans ((Below.refl _ w1).alloc (Nat.le_refl _) _) (drawn _ _)
    have d0' := (hg3.cell (p := ⟨w.heap.size, 0, none⟩) hlt1).trans d0
    have d1' := (hg3.cell (p := ⟨w.heap.size, 1, none⟩) hlt1).trans d1
    have dz' : ∀ j, ((w1.alloc (.cells #[.int .i64 0, .int .i64 0] 155)).drewN nq).frozen? ⟨w.heap.size, j, none⟩ = false := fun j => (hg3.frozen (p := ⟨w.heap.size, j, none⟩) hlt1).trans (dz j)
    obtain ⟨n0, n1, nz, nn⟩ := new_two (Below.refl _ (w1.alloc (.cells #[.int .i64 0, .int .i64 0] 155)))
    replace n0 : ((w1.alloc (.cells #[.int .i64 0, .int .i64 0] 155)).drewN nq).cell? ⟨w1.heap.size, 0, none⟩ = some (.int .i64 0) := n0
    replace n1 : ((w1.alloc (.cells #[.int .i64 0, .int .i64 0] 155)).drewN nq).cell? ⟨w1.heap.size, 1, none⟩ = some (.int .i64 0) := n1
    have hgV := fresh_trans hgW hg3
    clear hg3 nn nz d0 d1 dz
    generalize (w1.alloc (.cells #[.int .i64 0, .int .i64 0] 155)).drewN nq = V at *
    go_wp2_with fail
    refine bodyPost_ret (v := .tuple #[.agg #[.int .i64 0, .int .i64 0], .bool false]) (by simp [results, Tryz.results131, go_sem, d0', d1']) rfl ?_
    exact ⟨rfl, (hgV.setCell (Nat.le_refl _) _).setCell (Nat.le_refl _) _⟩
  | cons e l =>
    rw [other_first he ho]
    rw [he] at M N hso
    have N1 := Lib.hid (fun w' g => N.out w' g e.key)
    rw [next_of hso] at N1
    clear N hso ho
    simp only [List.map_cons, List.head?_cons, Ent.key] at M N1
    by_cases hc : e.id = st.cur
    · rw [if_pos hc]
      rw [hc] at M N1
      change Hid (∀ w', Below w.heap.size w w' → Calls Tryz.prog 159 #[.pointer (some ⟨t, 0, none⟩), .agg #[.int .i64 e.v, .int .i64 st.cur]] w' (Is (keyV (l.head?.map Ent.key)) w')) at N1
      generalize l.head?.map Ent.key = o at *
      obtain ⟨x, y, z, eo⟩ := keyV_parts o
      rw [eo] at N1 ⊢
      simp only [keyV] at M
      clear eo hc he
      generalize e.v = ev at *
      generalize st.cur = cur at *
      go_enter Tryz.func131, Tryz.ntmps131
      go_wp2_with (go_at_call 146; refine (M.out _ hgW).mono ?_; rintro e w1 ⟨rfl, hg1⟩; obtain ⟨d0, d1, dz, dd⟩ := new_two hg1; replace hgW := fresh_trans hgW hg1; have hlt1 := lt_of dd; have x2 := (hgW.cell (p := ⟨q, 2, none⟩) hq).trans c2; have x1 := (hgW.cell (p := ⟨q, 1, none⟩) hq).trans c1; have hq1 := Nat.lt_trans hq hlt1; clear hg1)
      go_quiet (fail)
      go_wp2_with fail
      have hg3 : Below w1.heap.size w1 ((w1.alloc (.cells #[.int .i64 ev, .int .i64 cur] 155)).drewN nq) := fresh_trans ((Below.refl _ w1).alloc (Nat.le_refl _) _) (drawn _ _)
      have d0' := (hg3.cell (p := ⟨w.heap.size, 0, none⟩) hlt1).trans d0
      have d1' := (hg3.cell (p := ⟨w.heap.size, 1, none⟩) hlt1).trans d1
      have ddd := (hg3.block w.heap.size hlt1).trans dd
      obtain ⟨n0, n1, nz, nn⟩ := new_two (Below.refl _ (w1.alloc (.cells #[.int .i64 ev, .int .i64 cur] 155)))
      replace n0 : ((w1.alloc (.cells #[.int .i64 ev, .int .i64 cur] 155)).drewN nq).cell? ⟨w1.heap.size, 0, none⟩ = some (.int .i64 ev) := n0
      replace n1 : ((w1.alloc (.cells #[.int .i64 ev, .int .i64 cur] 155)).drewN nq).cell? ⟨w1.heap.size, 1, none⟩ = some (.int .i64 cur) := n1
      have y1 := (hg3.cell (p := ⟨q, 1, none⟩) hq1).trans x1
      have hgV := fresh_trans hgW hg3
      clear hg3 nn nz
      generalize (w1.alloc (.cells #[.int .i64 ev, .int .i64 cur] 155)).drewN nq = V at *
      go_region_with (go_at_call 159; refine (N1.out _ hgV.drew).mono ?_; rintro e' w2 ⟨rfl, hg4⟩; replace hg4 := undrew hg4; have e2 := (hg4.block w.heap.size (lt_of ddd)).trans ddd; have f0 := cell_of_row w2 _ 0 _ _ _ e2; have f1 := cell_of_row w2 _ 1 _ _ _ e2; have ff := fun j => frozen_of_row w2 _ j _ _ e2; replace hgV := fresh_trans hgV hg4; clear hg4 e2)
      all_goals
        go_wp2_with fail
        refine bodyPost_ret (v := .tuple #[.agg #[.int .i64 x, .int .i64 y], .bool z]) (by simp [results, Tryz.results131, go_sem, f0, f1]) rfl ?_
        exact ⟨rfl, (hgV.setCell (Nat.le_refl _) _).setCell (Nat.le_refl _) _⟩
    · rw [if_neg hc]
      have hc1 : (e.id == st.cur) = false := by simpa using hc
      simp only [keyV, Option.map_some, Ent.key] at M ⊢
      generalize e.v = ev at *
      generalize e.id = ei at *
      generalize st.cur = cur at *
      clear N1 he
      go_enter Tryz.func131, Tryz.ntmps131
      go_wp2_with (go_at_call 146; refine (M.out _ hgW).mono ?_; rintro e w1 ⟨rfl, hg1⟩; obtain ⟨d0, d1, dz, dd⟩ := new_two hg1; replace hgW := fresh_trans hgW hg1; have hlt1 := lt_of dd; have x2 := (hgW.cell (p := ⟨q, 2, none⟩) hq).trans c2; have hq1 := Nat.lt_trans hq hlt1; clear hg1 dd)
      go_quiet (fail)
      have hg3 : Below w1.heap.size w1 ((w1.alloc (.cells #[.int .i64 ev, .int .i64 ei] 155)).drewN nq) := fresh_trans ((Below.refl _ w1).alloc (Nat.le_refl _) _) (drawn _ _)
      have d0' := (hg3.cell (p := ⟨w.heap.size, 0, none⟩) hlt1).trans d0
      have d1' := (hg3.cell (p := ⟨w.heap.size, 1, none⟩) hlt1).trans d1
      have dz' : ∀ j, ((w1.alloc (.cells #[.int .i64 ev, .int .i64 ei] 155)).drewN nq).frozen? ⟨w.heap.size, j, none⟩ = false := fun j => (hg3.frozen (p := ⟨w.heap.size, j, none⟩) hlt1).trans (dz j)
      obtain ⟨n0, n1, nz, nn⟩ := new_two (Below.refl _ (w1.alloc (.cells #[.int .i64 ev, .int .i64 ei] 155)))
      replace n0 : ((w1.alloc (.cells #[.int .i64 ev, .int .i64 ei] 155)).drewN nq).cell? ⟨w1.heap.size, 0, none⟩ = some (.int .i64 ev) := n0
      replace n1 : ((w1.alloc (.cells #[.int .i64 ev, .int .i64 ei] 155)).drewN nq).cell? ⟨w1.heap.size, 1, none⟩ = some (.int .i64 ei) := n1
      have hgV := fresh_trans hgW hg3
      clear hg3 nn nz d0 d1 dz
      generalize (w1.alloc (.cells #[.int .i64 ev, .int .i64 ei] 155)).drewN nq = V at *
      go_wp2_with fail
      refine bodyPost_ret (v := .tuple #[.agg #[.int .i64 ev, .int .i64 ei], .bool true]) (by simp [results, Tryz.results131, go_sem, d0', d1']) rfl ?_
      exact ⟨rfl, (hgV.setCell (Nat.le_refl _) _).setCell (Nat.le_refl _) _⟩
end Go.Proofs.YtnnjbonejbmgdaaGreat.Queue

/- What stayOrFirst of package runq answers. Conditions: each number is one of its kind. -/
namespace Go.Proofs.YtnnjbonejbmgdaaGreat.Queue
open Go.ChangeShapes Go.WideShapes Go.ChangeAt Go.RowKit Tree
set_option linter.unusedVariables false
set_option linter.unusedSimpArgs false
set_option maxRecDepth 100000

/-- Whether the current one stays. -/
def stays (st : St) (g : Int) : Bool := named st.es st.cur && (match other st with
  | none => true
  | some o => decide ((find st.es st.cur).v ≤ reach o.v g))
def chosen (st : St) (g : Int) : Int := if stays st g then (find st.es st.cur).id else match other st with
  | none => -1
  | some o => o.id
set_option maxHeartbeats 4000000 in
theorem stayOrFirsts (w : World) (q : Nat) (O : Nat → Prop) (st : St) (g : Int) (h : Qu w q O st) (ho : Once st.es) (hc : I64 st.cur) (hg : I64 g) (hv : ∀ e ∈ st.es, I64 e.v) :
    Calls Tryz.prog 129 #[.pointer (some ⟨q, 0, none⟩), .int .i64 g] w (Is (.int .i64 (chosen st g)) w) := by
  have F := Lib.hid (fun w' (g : Below w.heap.size w w') => finds w' q O st st.cur (h.fresh g) hc)
  have B := Lib.hid (fun w' (g : Below w.heap.size w w') => firstOthers w' q O st (h.fresh g) ho)
  have hq := h.lt
  have c2 : w.cell? ⟨q, 2, none⟩ = some (.int .i64 st.cur) := by
    obtain ⟨m, t, T, h⟩ := h
    exact h.blk.cells.2.2.1
  have hov : ∀ o, other st = some o → I64 o.v := fun o e => hv o (by
    unfold other at e
    have := List.mem_of_mem_head? e
    unfold drop at this
    exact (List.mem_filter.1 this).1)
  unfold chosen stays
  clear h
  generalize find st.es st.cur = now at *
  generalize named st.es st.cur = sv at *
  generalize st.cur = cur at *
  obtain ⟨na, nb, nc, nd⟩ := now
  simp only [Ent.val] at F
  cases hoo : other st with
  | none =>
    rw [hoo] at B
    simp only [Option.map_none, keyV] at B
    cases sv
    all_goals
      simp only [Bool.false_and, Bool.true_and, Bool.false_eq_true, if_false, if_true]
      go_enter Tryz.func129, Tryz.ntmps129
      go_wp2_with (first
        | (go_at_call 109; refine (F.out _ (Below.refl _ w)).mono ?_; rintro e w1 ⟨rfl, hg1⟩; have hs1 := hg1.size)
        | (go_at_call 131; refine (B.out _ (fresh_trans hg1 ((Below.refl _ _).alloc (Nat.le_refl _) _))).mono ?_; rintro e w2 ⟨rfl, hg2⟩; obtain ⟨n0, n1, n2, n3, nz, nn⟩ := new_four hg2; have hl2 := lt_of nn; replace hg1 := fresh_trans hg1 (fresh_trans ((Below.refl _ _).alloc (Nat.le_refl _) _) hg2); clear hg2 nn nz hs1))
      go_quiet (fail)
      go_wp2_with fail
      go_ret
      exact ⟨rfl, fresh_trans hg1 (fresh_trans ((Below.refl _ _).alloc (Nat.le_refl _) _) (drawn _ _))⟩
  | some o =>
    have ha := hov o hoo
    rw [hoo] at B
    simp only [Option.map_some, keyV, Ent.key] at B
    have AH := Lib.hid (fun w => aheads o.v g w ha hg)
    clear hov ha hv ho
    show Calls Tryz.prog 129 #[.pointer (some ⟨q, 0, none⟩), .int .i64 g] w (Is (.int .i64 (if (sv && decide (nc ≤ reach o.v g)) = true then na else o.id)) w)
    generalize reach o.v g = rc at *
    generalize o.v = ov at *
    generalize o.id = oi at *
    cases sv
    · simp only [Bool.false_and, Bool.false_eq_true, if_false]
      go_enter Tryz.func129, Tryz.ntmps129
      go_wp2_with (first
        | (go_at_call 109; refine (F.out _ (Below.refl _ w)).mono ?_; rintro e w1 ⟨rfl, hg1⟩; have hs1 := hg1.size)
        | (go_at_call 131; refine (B.out _ (fresh_trans hg1 ((Below.refl _ _).alloc (Nat.le_refl _) _))).mono ?_; rintro e w2 ⟨rfl, hg2⟩; obtain ⟨n0, n1, n2, n3, nz, nn⟩ := new_four hg2; have hl2 := lt_of nn; replace hg1 := fresh_trans hg1 (fresh_trans ((Below.refl _ _).alloc (Nat.le_refl _) _) hg2); clear hg2 nn nz hs1))
      go_quiet (fail)
      go_wp2_with fail
      go_ret
      exact ⟨rfl, fresh_trans hg1 (fresh_trans ((Below.refl _ _).alloc (Nat.le_refl _) _) (drawn _ _))⟩
    · simp only [Bool.true_and]
      by_cases hle : nc ≤ rc
      all_goals
        first
          | rw [if_pos (by simpa using hle)]
          | rw [if_neg (by simpa using hle)]
        have hdec : ¬ nc ≤ rc → decide (nc ≤ rc) = false := fun h => decide_eq_false h
        go_enter Tryz.func129, Tryz.ntmps129
        go_wp2_with (first
          | (go_at_call 109; refine (F.out _ (Below.refl _ w)).mono ?_; rintro e w1 ⟨rfl, hg1⟩; have hs1 := hg1.size)
          | (go_at_call 131; refine (B.out _ (fresh_trans hg1 ((Below.refl _ _).alloc (Nat.le_refl _) _))).mono ?_; rintro e w2 ⟨rfl, hg2⟩; obtain ⟨n0, n1, n2, n3, nz, nn⟩ := new_four hg2; have hl2 := lt_of nn; replace hg1 := fresh_trans hg1 (fresh_trans ((Below.refl _ _).alloc (Nat.le_refl _) _) hg2); clear hg2 nn nz hs1))
        have hgV := (Below.refl w2.heap.size w2).alloc (Nat.le_refl _) (.cells #[.int .i64 ov, .int .i64 oi] 155)
        obtain ⟨u0, u1, uz, uu⟩ := new_two (Below.refl _ (w2.alloc (.cells #[.int .i64 ov, .int .i64 oi] 155)))
        have v0 := (hgV.cell (p := ⟨w1.heap.size, 0, none⟩) hl2).trans n0
        have v2 := (hgV.cell (p := ⟨w1.heap.size, 2, none⟩) hl2).trans n2
        have hgX := fresh_trans hg1 hgV
        have hu := lt_of uu
        have hx := Nat.lt_trans hl2 hu
        clear n0 n1 n2 n3 hgV uu uz
        generalize w2.alloc (.cells #[.int .i64 ov, .int .i64 oi] 155) = V at *
        generalize w2.heap.size = s2 at *
        generalize w1.heap.size = s1 at *
        go_region_held3 (fun w' => w'.cell? ⟨s1, 2, none⟩ = some (.int .i64 nc) ∧ w'.cell? ⟨s2, 0, none⟩ = some (.int .i64 ov)) (first | exact ⟨v2, u0⟩ | exact ⟨y2, z0⟩)
          (first
            | (go_at_call 132; refine (AH.out _).mono ?_; rintro e w3 ⟨rfl, hg3⟩; replace hg3 := undrew hg3; have y0 := (hg3.cell (p := ⟨s1, 0, none⟩) hx).trans v0; have y2 := (hg3.cell (p := ⟨s1, 2, none⟩) hx).trans v2; have z0 := (hg3.cell (p := ⟨s2, 0, none⟩) hu).trans u0; have z1 := (hg3.cell (p := ⟨s2, 1, none⟩) hu).trans u1; replace hgX := fresh_trans hgX hg3; clear hg3))
        all_goals
          go_wp2_with fail
          go_ret
          exact ⟨rfl, hgX⟩
end Go.Proofs.YtnnjbonejbmgdaaGreat.Queue

/- What Pick, Yield, Current, Min and Flag of package runq do. Conditions: each number is one of its kind. -/
namespace Go.Proofs.YtnnjbonejbmgdaaGreat.Queue
open Go.ChangeShapes Go.WideShapes Go.ChangeAt Go.RowKit Tree
set_option linter.unusedVariables false
set_option linter.unusedSimpArgs false
set_option maxRecDepth 100000

theorem makes (fn : Fn) (first cap : Array Value) (w : World) : (Instr.makeFunc fn first cap).run Tryz.prog w = .ok (.func fn first cap) w := rfl
theorem picks_close (w : World) (q bq bi : Nat) (x : Int) (v : Value) (u : FrameMode) (h1 : w.cell? ⟨bq, 0, none⟩ = some (.pointer (some ⟨q, 0, none⟩))) (h2 : w.cell? ⟨bi, 0, none⟩ = some (.int .i64 x)) (h3 : w.cell? ⟨q, 2, none⟩ = some v) (h4 : w.frozen? ⟨q, 2, none⟩ = false) :
    CallsD Tryz.prog 128 #[.pointer (some ⟨bi, 0, none⟩), .pointer (some ⟨bq, 0, none⟩)] u w fun e u' w' => u' = u ∧ (e = .returned (.tuple #[]) ∧ w' = w.setCell ⟨q, 2, none⟩ (.int .i64 x)) := by
  go_enter_d Tryz.func128, Tryz.ntmps128
  go_wp2
  go_end0
  exact ⟨rfl, rfl⟩
theorem Qu.setCur {w w' : World} {q : Nat} {O : Nat → Prop} {st : St} (h : Qu w q O st) (hg : Below w.heap.size w w') (x : Int) : Qu (w'.setCell ⟨q, 2, none⟩ (.int .i64 x)) q O { st with cur := x } := by
  obtain ⟨m, t, T, h⟩ := h
  have h' := h.fresh hg
  exact ⟨m, t, T, h'.blk.setCur x, h'.map.on (Below.heap_setCell _ _ _ _ (fun e => h.qm e.symm)), kept_on h'.kept fun b hb => Below.heap_setCell _ _ _ _ (fun e => h.kept.apart b hb (.inr (.inl e))), h.keys, h.oq, h.om, h.qm⟩
theorem pick_nil (w : World) (g : Int) : Calls Tryz.prog 86 #[.pointer none, .int .i64 g] w (Is (.int .i64 (-1)) w) := by
  have hmf := makes
  go_enter_defers Tryz.func86, Tryz.ntmps86
  go_wp2_with (go_at_call 105; refine (made_nil _).mono ?_; rintro e w1 ⟨rfl, rfl⟩)
  exact ⟨.int .i64 (-1), by simp [results, Tryz.results86, go_sem], rfl, by go_grown⟩
/-- Two new blocks of one cell each, behind whatever else is made. -/
theorem ones {w w1 : World} {x y : Value} {s t : TypeId} (hg : Below ((w.alloc (.cells #[x] s)).alloc (.cells #[y] t)).heap.size ((w.alloc (.cells #[x] s)).alloc (.cells #[y] t)) w1) :
    w1.cell? ⟨w.heap.size, 0, none⟩ = some x ∧ w1.cell? ⟨w.heap.size + 1, 0, none⟩ = some y ∧ (∀ j, w1.frozen? ⟨w.heap.size + 1, j, none⟩ = false) ∧ Below w.heap.size w w1 ∧ w.heap.size + 1 < w1.heap.size := by
  have e1 : (w.alloc (.cells #[x] s)).heap.size = w.heap.size + 1 := by simp
  have a1 : ((w.alloc (.cells #[x] s)).alloc (.cells #[y] t)).heap[w.heap.size + 1]? = some (.cells #[y] t (0, 0)) := by rw [← e1]; exact heap_alloc_new _ _
  have a0 : ((w.alloc (.cells #[x] s)).alloc (.cells #[y] t)).heap[w.heap.size]? = some (.cells #[x] s (0, 0)) := by
    rw [heap_alloc_old _ _ (by rw [e1]; omega)]; exact heap_alloc_new _ _
  have b1 : w1.heap[w.heap.size + 1]? = some (.cells #[y] t (0, 0)) := (hg.block _ (lt_of a1)).trans a1
  have b0 : w1.heap[w.heap.size]? = some (.cells #[x] s (0, 0)) := (hg.block _ (lt_of a0)).trans a0
  refine ⟨?_, ?_, fun j => frozen_of_row w1 _ j _ _ b1, fresh_trans ((Below.refl _ w).alloc (Nat.le_refl _) _) (fresh_trans ((Below.refl _ _).alloc (Nat.le_refl _) _) hg), lt_of b1⟩
  · rw [cell_of_row _ _ _ _ _ _ b0]; rfl
  · rw [cell_of_row _ _ _ _ _ _ b1]; rfl
set_option maxHeartbeats 2000000 in
theorem picks (w : World) (q : Nat) (O : Nat → Prop) (st : St) (g : Int) (h : Qu w q O st) (hO : ∀ k, O k → k < w.heap.size) (ho : Once st.es) (hc : I64 st.cur) (hg : I64 g) (hv : ∀ e ∈ st.es, I64 e.v) :
    Calls Tryz.prog 86 #[.pointer (some ⟨q, 0, none⟩), .int .i64 g] w (Did (.int .i64 (chosen st g)) { st with cur := chosen st g } q O w) := by
  have hmf := makes
  have M := Lib.hid (fun w' (g : Below w.heap.size w w') => made w' q O st (h.fresh g))
  have S := Lib.hid (fun w' (gb : Below w.heap.size w w') => stayOrFirsts w' q O st g (h.fresh gb) ho hc hg hv)
  have H := Lib.hid (fun w' (gb : Below w.heap.size w w') x => h.setCur gb x)
  have hq := h.lt
  have hqo := h.out
  have c2 : w.cell? ⟨q, 2, none⟩ = some (.int .i64 st.cur) ∧ w.frozen? ⟨q, 2, none⟩ = false := by
    obtain ⟨m, t, T, h⟩ := h
    exact ⟨h.blk.cells.2.2.1, h.blk.cells.2.2.2.2.2 2⟩
  clear h
  generalize chosen st g = x at *
  obtain ⟨_, _, _, hg0, _⟩ := ones (Below.refl _ ((w.alloc (.cells #[.pointer (some ⟨q, 0, none⟩)] 85)).alloc (.cells #[.int .i64 0] 3)))
  go_enter_defers Tryz.func86, Tryz.ntmps86
  go_wp2_with (first
    | (go_at_call 105; refine (M.out _ hg0).mono ?_; rintro e w1 ⟨rfl, rfl⟩)
    | (go_at_call 129; refine (S.out _ hg0).mono ?_; rintro e w1 ⟨rfl, hg1⟩; obtain ⟨o0, o1, of, hg2, hl⟩ := ones hg1; clear hg1))
  have hqn : ¬ q = w.heap.size + 1 := by omega
  have hnq : ¬ w.heap.size + 1 = q := by omega
  have x2 := (hg2.cell (p := ⟨q, 2, none⟩) hq).trans c2.1
  have xf := (hg2.frozen (p := ⟨q, 2, none⟩) hq).trans c2.2
  have hgX : Below w.heap.size w (w1.setCell ⟨w.heap.size + 1, 0, none⟩ (.int .i64 x)) := hg2.setCell (by simp) _
  have Z := Lib.hid (H.out _ hgX x)
  refine leaves_cons (f := 128) (args := #[.pointer (some ⟨w.heap.size + 1, 0, none⟩), .pointer (some ⟨w.heap.size, 0, none⟩)]) (by simp) (by simp [go_sem]) ?_
  refine (picks_close _ q w.heap.size (w.heap.size + 1) x (.int .i64 st.cur) .returning (by go_simp) (by go_simp) (by go_simp) (by go_simp)).mono ?_
  rintro e u' w'' ⟨rfl, rfl, rfl⟩
  refine ⟨.int .i64 x, by simp [results, Tryz.results86, go_sem, hqn, hnq, o1], rfl, Z.out, (Same.of hgX hO).trans (Same.setCell (p := ⟨q, 2, none⟩) hqo _)⟩
end Go.Proofs.YtnnjbonejbmgdaaGreat.Queue

/- What the calls of package runq answer of a queue that is nil; New; Current, Min and Flag. Conditions: none. -/
namespace Go.Proofs.YtnnjbonejbmgdaaGreat.Queue
open Go.ChangeShapes Go.WideShapes Go.ChangeAt Go.RowKit Tree
set_option linter.unusedVariables false
set_option linter.unusedSimpArgs false
set_option maxRecDepth 100000

theorem cell_alloc {w : World} {a : Addr} {v : Value} (h : w.cell? a = some v) (o : Obj) : (w.alloc o).cell? a = some v :=
  (World.cell?_of_block (Below.heap_alloc w o a.block (World.block_lt_of_cell? w a h))).trans h
theorem drop_nil (w : World) (id : Int) : Calls Tryz.prog 71 #[.pointer none, .int .i64 id] w (Is (.tuple #[Ent.zero.val, .int .i64 12]) w) := by
  have F := Lib.hid (fun w => finds_nil w id)
  simp only [Ent.val, Ent.zero] at *
  have hg0 := (Below.refl w.heap.size w).alloc (Nat.le_refl _) (.cells #[.int .i64 0, .int .u64 0, .int .i64 0, .int .u64 0] 34)
  go_enter_defers Tryz.func71, Tryz.ntmps71
  go_wp2_with (go_at_call 109; refine (F.out _).mono ?_; rintro e w1 ⟨rfl, hg1⟩; obtain ⟨n0, n1, n2, n3, nz, nn⟩ := new_four hg1; replace hg0 := fresh_trans hg0 hg1; have hl := lt_of nn; clear hg1 nn)
  have hs := hg0.size
  have k0 : ((((w1.setCell ⟨w.heap.size, 0, none⟩ (.int .i64 0)).setCell ⟨w.heap.size, 1, none⟩ (.int .u64 0)).setCell ⟨w.heap.size, 2, none⟩ (.int .i64 0)).setCell ⟨w.heap.size, 3, none⟩ (.int .u64 0)).cell? ⟨w.heap.size, 0, none⟩ = some (.int .i64 0) := by go_simp
  have k1 : ((((w1.setCell ⟨w.heap.size, 0, none⟩ (.int .i64 0)).setCell ⟨w.heap.size, 1, none⟩ (.int .u64 0)).setCell ⟨w.heap.size, 2, none⟩ (.int .i64 0)).setCell ⟨w.heap.size, 3, none⟩ (.int .u64 0)).cell? ⟨w.heap.size, 1, none⟩ = some (.int .u64 0) := by go_simp
  have k2 : ((((w1.setCell ⟨w.heap.size, 0, none⟩ (.int .i64 0)).setCell ⟨w.heap.size, 1, none⟩ (.int .u64 0)).setCell ⟨w.heap.size, 2, none⟩ (.int .i64 0)).setCell ⟨w.heap.size, 3, none⟩ (.int .u64 0)).cell? ⟨w.heap.size, 2, none⟩ = some (.int .i64 0) := by go_simp
  have k3 : ((((w1.setCell ⟨w.heap.size, 0, none⟩ (.int .i64 0)).setCell ⟨w.heap.size, 1, none⟩ (.int .u64 0)).setCell ⟨w.heap.size, 2, none⟩ (.int .i64 0)).setCell ⟨w.heap.size, 3, none⟩ (.int .u64 0)).cell? ⟨w.heap.size, 3, none⟩ = some (.int .u64 0) := by go_simp
  refine ⟨.tuple #[.agg #[.int .i64 0, .int .u64 0, .int .i64 0, .int .u64 0], .int .i64 12], by simp [results, Tryz.results71, go_sem, cell_alloc k0, cell_alloc k1, cell_alloc k2, cell_alloc k3], rfl, ?_⟩
  exact ((((hg0.setCell (Nat.le_refl _) _).setCell (Nat.le_refl _) _).setCell (Nat.le_refl _) _).setCell (Nat.le_refl _) _).alloc (by simpa [World.setCell] using hs) _
theorem weigh_nil (w : World) (id x : Int) : Calls Tryz.prog 83 #[.pointer none, .int .i64 id, .int .u64 x] w (Is (.int .i64 12) w) := by
  have F := Lib.hid (fun w => finds_nil w id)
  simp only [Ent.val, Ent.zero] at *
  go_enter_defers Tryz.func83, Tryz.ntmps83
  go_wp2_with (go_at_call 109; refine (F.out _).mono ?_; rintro e w1 ⟨rfl, hg1⟩; have hs := hg1.size)
  exact ⟨_, results_tmp rfl _ _ _, rfl, by go_grown⟩
theorem charge_nil (w : World) (x : Int) : Calls Tryz.prog 64 #[.pointer none, .int .u64 x] w (Is (.int .i64 12) w) := by
  go_enter_defers Tryz.func64, Tryz.ntmps64
  go_wp2_with (go_at_call 105; refine (made_nil _).mono ?_; rintro e w1 ⟨rfl, rfl⟩)
  exact ⟨_, results_tmp rfl _ _ _, rfl, by go_grown⟩
theorem yield_nil (w : World) (g : Int) : Calls Tryz.prog 87 #[.pointer none, .int .i64 g] w (Is (.int .i64 (-1)) w) := by
  have hmf := makes
  go_enter_defers Tryz.func87, Tryz.ntmps87
  go_wp2_with (go_at_call 105; refine (made_nil _).mono ?_; rintro e w1 ⟨rfl, rfl⟩)
  exact ⟨.int .i64 (-1), by simp [results, Tryz.results87, go_sem], rfl, by go_grown⟩
theorem current_nil (w : World) : Calls Tryz.prog 58 #[.pointer none] w (Is (.int .i64 (-1)) w) := by
  go_enter Tryz.func58, Tryz.ntmps58
  go_wp2_with (go_at_call 105; refine (made_nil _).mono ?_; rintro e w1 ⟨rfl, rfl⟩)
  go_ret; exact ⟨rfl, Below.refl _ _⟩
theorem min_nil (w : World) : Calls Tryz.prog 66 #[.pointer none] w (Is (.int .i64 0) w) := by
  go_enter Tryz.func66, Tryz.ntmps66
  go_wp2_with (go_at_call 105; refine (made_nil _).mono ?_; rintro e w1 ⟨rfl, rfl⟩)
  go_ret; exact ⟨rfl, Below.refl _ _⟩
theorem load_nil (w : World) : Calls Tryz.prog 61 #[.pointer none] w (Is (.int .u64 0) w) := by
  go_enter Tryz.func61, Tryz.ntmps61
  go_wp2_with (go_at_call 105; refine (made_nil _).mono ?_; rintro e w1 ⟨rfl, rfl⟩)
  go_ret; exact ⟨rfl, Below.refl _ _⟩
theorem ents_nil (w : World) : Calls Tryz.prog 60 #[.pointer none] w (Is (.slice none 0 0) w) := by
  go_enter Tryz.func60, Tryz.ntmps60
  go_wp2_with (go_at_call 105; refine (made_nil _).mono ?_; rintro e w1 ⟨rfl, rfl⟩)
  go_ret; exact ⟨rfl, Below.refl _ _⟩
theorem flag_nil (w : World) : Calls Tryz.prog 118 #[.pointer none] w (Is (.bool false) w) := by
  go_enter Tryz.func118, Tryz.ntmps118
  go_wp2_with (go_at_call 105; refine (made_nil _).mono ?_; rintro e w1 ⟨rfl, rfl⟩)
  go_ret; exact ⟨rfl, Below.refl _ _⟩

theorem currents (w : World) (q : Nat) (O : Nat → Prop) (st : St) (h : Qu w q O st) : Calls Tryz.prog 58 #[.pointer (some ⟨q, 0, none⟩)] w (Is (.int .i64 st.cur) w) := by
  have M := Lib.hid (made w q O st h)
  obtain ⟨m, t, T, h⟩ := h
  obtain ⟨c0, c1, c2, c3, c4, fz⟩ := h.blk.cells
  clear h
  go_enter Tryz.func58, Tryz.ntmps58
  go_wp2_with (go_at_call 105; refine (M.out).mono ?_; rintro e w1 ⟨rfl, rfl⟩)
  go_ret; exact ⟨rfl, Below.refl _ _⟩
theorem minss (w : World) (q : Nat) (O : Nat → Prop) (st : St) (h : Qu w q O st) : Calls Tryz.prog 66 #[.pointer (some ⟨q, 0, none⟩)] w (Is (.int .i64 st.min) w) := by
  have M := Lib.hid (made w q O st h)
  obtain ⟨m, t, T, h⟩ := h
  obtain ⟨c0, c1, c2, c3, c4, fz⟩ := h.blk.cells
  clear h
  go_enter Tryz.func66, Tryz.ntmps66
  go_wp2_with (go_at_call 105; refine (M.out).mono ?_; rintro e w1 ⟨rfl, rfl⟩)
  go_ret; exact ⟨rfl, Below.refl _ _⟩
theorem flags (w : World) (q : Nat) (O : Nat → Prop) (st : St) (h : Qu w q O st) : Calls Tryz.prog 118 #[.pointer (some ⟨q, 0, none⟩)] w (Is (.bool st.flag) w) := by
  have M := Lib.hid (made w q O st h)
  obtain ⟨m, t, T, h⟩ := h
  obtain ⟨c0, c1, c2, c3, c4, fz⟩ := h.blk.cells
  clear h
  go_enter Tryz.func118, Tryz.ntmps118
  go_wp2_with (go_at_call 105; refine (M.out).mono ?_; rintro e w1 ⟨rfl, rfl⟩)
  go_ret; exact ⟨rfl, Below.refl _ _⟩

def St.new : St := ⟨[], -1, 0, false⟩
/-- A queue of New's. -/
def Born (w : World) (e : Ending) (w' : World) : Prop := ∃ q, w.heap.size ≤ q ∧ e = .returned (.pointer (some ⟨q, 0, none⟩)) ∧ Below w.heap.size w w' ∧ ∀ O : Nat → Prop, (∀ b, O b → b < w.heap.size) → Qu w' q O St.new
theorem news (w : World) : Calls Tryz.prog 38 #[] w (Born w) := by
  have hmm := @run_makeMap Tryz.prog
  have N := Lib.hid (fun w => Tree.news w)
  go_enter Tryz.func38, Tryz.ntmps38
  go_wp2_with (go_at_call 88; refine (N.out _).mono ?_; rintro e w1 ⟨t, ht, rfl, hg1, hk⟩)
  go_ret
  have e1 : (w.alloc (.map #[] 0)).heap.size = w.heap.size + 1 := by simp
  have hg2 := (Below.refl w1.heap.size w1).alloc (Nat.le_refl _) (.cells #[.map (some w.heap.size), .pointer (some ⟨t, 0, none⟩), .int .i64 (-1), .int .i64 0, .bool false] 137)
  have hs := hg1.size
  rw [e1] at hs ht
  refine ⟨w1.heap.size, by omega, rfl, fresh_trans ((Below.refl _ w).alloc (Nat.le_refl _) _) (fresh_trans hg1 hg2), fun O hO => ?_⟩
  have hk1 := hk (fun b => O b ∨ b = w.heap.size) (by rintro b (hb | rfl); have := hO b hb; omega; omega)
  refine ⟨w.heap.size, t, .nil, heap_alloc_new _ _, ((Mp.made w).fresh hg1).fresh hg2, ?_, rfl, fun e => by have := hO _ e; omega, fun e => by have := hO _ e; omega, by omega⟩
  have hk2 := kept_on hk1 (w' := w1.alloc (.cells #[.map (some w.heap.size), .pointer (some ⟨t, 0, none⟩), .int .i64 (-1), .int .i64 0, .bool false] 137)) fun b hb => hg2.block b (kept_lt hk1 b hb)
  refine ⟨hk2.top, hk2.nodup, hk2.sorted, hk2.ok, hk2.rr, hk2.black, ?_⟩
  rintro b hb (e | rfl | e)
  · exact hk1.apart b hb (.inl e)
  · have := kept_lt hk1 _ hb; omega
  · exact hk1.apart b hb (.inr e)
end Go.Proofs.YtnnjbonejbmgdaaGreat.Queue
