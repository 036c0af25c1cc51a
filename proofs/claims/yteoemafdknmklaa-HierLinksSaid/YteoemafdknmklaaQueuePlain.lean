/- Entities in a map by their numbers: how the map lies in memory, and what is looked up, put and deleted. Conditions: none. -/
import Derived.Test.YteoemafdknmklaaTreeDelete
import Derived.Maps.OwnSet
import Derived.Maps.RangeWalk
import Derived.Maps.Ext
namespace Go.Proofs.Yteoemafdknmklaa.Queue
open Go.ChangeShapes Go.WideShapes Go.ChangeAt Go.RowKit Tree
set_option linter.unusedVariables false
set_option linter.unusedSimpArgs false
set_option maxRecDepth 100000

/-- An entity. -/
structure Ent where
  id : Int
  wt : Int
  v : Int
  rm : Int
deriving DecidableEq
def Ent.zero : Ent := ⟨0, 0, 0, 0⟩
def Ent.val (e : Ent) : Value := .agg #[.int .i64 e.id, .int .u64 e.wt, .int .i64 e.v, .int .u64 e.rm]
def Ent.key (e : Ent) : Ky := (e.v, e.id)
def Ent.datum (e : Ent) : DataW Unit := .agg [.lit (.int .i64 e.id), .lit (.int .u64 e.wt), .lit (.int .i64 e.v), .lit (.int .u64 e.rm)]
def entR : Value → Option (DataW Unit × List MemPlace)
  | .agg cs => match cs.toList with
    | [.int .i64 a, .int .u64 b, .int .i64 c, .int .u64 d] => some ((Ent.mk a b c d).datum, [])
    | _ => none
  | _ => none
theorem entR_mk (e : Ent) : entR e.val = some (e.datum, []) := rfl
theorem entR_inv {v : Value} {z : DataW Unit × List MemPlace} (h : entR v = some z) : ∃ e : Ent, v = e.val ∧ z = (e.datum, []) := by
  unfold entR at h
  split at h
  · rename_i cs
    split at h
    · rename_i a b c d he
      cases h
      refine ⟨⟨a, b, c, d⟩, ?_, rfl⟩
      have : cs = #[.int .i64 a, .int .u64 b, .int .i64 c, .int .u64 d] := by rw [← Array.toList_inj]; exact he
      rw [this]; rfl
    · cases h
  · cases h
theorem datum_inj {a b : Ent} (h : a.datum = b.datum) : a = b := by
  cases a; cases b
  simp [Ent.datum] at h
  simp [h]

abbrev mapT : TypeId := 65
theorem underMap : Try.prog.underlying mapT = some (.map 3 30) := by kernel_rfl
theorem underInt : Try.prog.underlying 3 = some (.int .i64) := by kernel_rfl
theorem law : Maps.Keyed Try.prog 3 := Maps.int_keyed underInt
theorem zeroE (w : World) : (zeroValue 30).run Try.prog w = .ok Ent.zero.val w := by kernel_rfl
def I64 (x : Int) : Prop := -9223372036854775808 ≤ x ∧ x ≤ 9223372036854775807
theorem wf_of {x : Int} (h : I64 x) : (Lit.int .i64 x).wf = true := by unfold I64 at h; exact WalkArith.wf_i64 h
theorem keyInt {x : Int} (h : I64 x) : keyOf Try.prog 3 (.int .i64 x) = some (.int .i64 x) := Maps.keyOf_int_mk underInt (wf_of h)
theorem keyLit (x : Int) : WideAt.IsKeyLit (.int .i64 x) := trivial
theorem keyNe {x y : Int} (h : x ≠ y) : (Lit.int .i64 x) ≠ (Lit.int .i64 y) := fun e => h (by cases e; rfl)

/-- One of these has that number. -/
def named (es : List Ent) (id : Int) : Bool := es.any fun e => e.id == id
/-- The one of that number. -/
def find (es : List Ent) (id : Int) : Ent := (es.find? fun e => e.id == id).getD Ent.zero
theorem find_of {es : List Ent} {id : Int} (h : named es id = true) : find es id ∈ es ∧ (find es id).id = id := by
  unfold named at h
  unfold find
  obtain ⟨e, he, hid⟩ := List.any_eq_true.1 h
  cases hf : es.find? (fun e => e.id == id) with
  | none => rw [List.find?_eq_none] at hf; exact absurd hid (hf e he)
  | some x => exact ⟨List.mem_of_find?_eq_some hf, by have := List.find?_some hf; simpa using this⟩
theorem find_not {es : List Ent} {id : Int} (h : named es id = false) : find es id = Ent.zero := by
  unfold named at h
  unfold find
  have : es.find? (fun e => e.id == id) = none := by
    rw [List.find?_eq_none]
    intro x hx hid
    rw [List.any_eq_false] at h
    exact h x hx hid
  rw [this]; rfl
/-- Numbers are told once. -/
def Once (es : List Ent) : Prop := es.Pairwise fun a b => a.id ≠ b.id
theorem once_eq {es : List Ent} (h : Once es) {a b : Ent} (ha : a ∈ es) (hb : b ∈ es) (e : a.id = b.id) : a = b := by
  induction es with
  | nil => simp at ha
  | cons x l ih =>
    unfold Once at h
    rw [List.pairwise_cons] at h
    rcases List.mem_cons.1 ha with ha' | ha' <;> rcases List.mem_cons.1 hb with hb' | hb'
    · rw [ha', hb']
    · subst ha'; exact absurd e (h.1 b hb')
    · subst hb'; exact absurd e.symm (h.1 a ha')
    · exact ih h.2 ha' hb'
theorem find_mem {es : List Ent} (h : Once es) {e : Ent} (he : e ∈ es) : find es e.id = e := by
  have hn : named es e.id = true := List.any_eq_true.2 ⟨e, he, by simp⟩
  obtain ⟨h1, h2⟩ := find_of hn
  exact once_eq h h1 he h2

/-- A map of entities at block m. -/
def Mp (w : World) (m : Nat) (es : List Ent) : Prop :=
  ∃ D : DataW Unit, w.ownsMap Try.prog 3 entR m es.length D ∧ Maps.size D = es.length ∧ (∀ id, Maps.has D (.int .i64 id) = named es id) ∧ (∀ e ∈ es, ∀ z, D.atKey (.int .i64 e.id) z = e.datum)
theorem Mp.lt {w : World} {m : Nat} {es : List Ent} (h : Mp w m es) : m < w.heap.size := by obtain ⟨D, h1, _⟩ := h; exact h1.lt
theorem Mp.on {w w' : World} {m : Nat} {es : List Ent} (h : Mp w m es) (e : w'.heap[m]? = w.heap[m]?) : Mp w' m es := by
  obtain ⟨D, ⟨x, c, h1, h2⟩, h3⟩ := h
  exact ⟨D, ⟨x, c, e.trans h1, h2⟩, h3⟩
theorem Mp.fresh {w w' : World} {m : Nat} {es : List Ent} (h : Mp w m es) (hg : Below w.heap.size w w') : Mp w' m es := h.on (hg.block m h.lt)
theorem named_perm {es es' : List Ent} (hp : es.Perm es') (id : Int) : named es id = named es' id := by
  unfold named
  exact Bool.eq_iff_iff.2 (by rw [List.any_eq_true, List.any_eq_true]; exact ⟨fun ⟨x, h1, h2⟩ => ⟨x, hp.mem_iff.1 h1, h2⟩, fun ⟨x, h1, h2⟩ => ⟨x, hp.mem_iff.2 h1, h2⟩⟩)
theorem Mp.perm {w : World} {m : Nat} {es es' : List Ent} (h : Mp w m es) (hp : es.Perm es') : Mp w m es' := by
  obtain ⟨D, h1, h2, h3, h4⟩ := h
  exact ⟨D, hp.length_eq ▸ h1, h2.trans hp.length_eq, fun id => (h3 id).trans (named_perm hp id), fun e he => h4 e (hp.mem_iff.2 he)⟩
theorem tight {w : World} {m n : Nat} {D : DataW Unit} (h : w.ownsMap Try.prog 3 entR m n D) : w.ownsMap Try.prog 3 entR m (Maps.size D) D := by
  obtain ⟨es, c, h1, h2, h3, rfl⟩ := h
  exact ⟨es, c, h1, h2, by simp [Maps.size, length_sorted], rfl⟩
theorem Mp.made (w : World) : Mp (w.alloc (.map #[] 0)) w.heap.size [] :=
  ⟨.map [], World.ownsMap_made w Try.prog 3 entR, rfl, fun id => rfl, fun e he => by simp at he⟩

/-- 'e, is := m[id]' and 'm[id]'. -/
theorem Mp.look {w : World} {m : Nat} {es : List Ent} (h : Mp w m es) {id : Int} (hid : I64 id) :
    (Instr.lookup mapT (.map (some m)) (.int .i64 id) true).run Try.prog w = .ok (.tuple #[(find es id).val, .bool (named es id)]) w := by
  obtain ⟨D, h1, h2, h3, h4⟩ := h
  obtain ⟨v, ps, hrun, hv⟩ := h1.look_ok law underMap (zeroE w) (entR_mk Ent.zero) (keyInt hid)
  obtain ⟨e, rfl, he⟩ := entR_inv hv
  rw [h3 id] at hrun
  rw [hrun]
  congr 4
  cases hn : named es id
  · rw [Maps.atKey_of_not_has ((h3 id).trans hn)] at he
    rw [find_not hn]
    exact congrArg Ent.val (datum_inj (congrArg Prod.fst he)).symm
  · obtain ⟨f1, f2⟩ := find_of hn
    have := h4 _ f1 Ent.zero.datum
    rw [f2] at this
    rw [this] at he
    exact congrArg Ent.val (datum_inj (congrArg Prod.fst he)).symm
theorem Mp.look1 {w : World} {m : Nat} {es : List Ent} (h : Mp w m es) {id : Int} (hid : I64 id) :
    (Instr.lookup mapT (.map (some m)) (.int .i64 id) false).run Try.prog w = .ok (find es id).val w := by
  obtain ⟨D, h1, h2, h3, h4⟩ := h
  obtain ⟨v, ps, hrun, hv⟩ := h1.lookup law underMap (zeroE w) (entR_mk Ent.zero) (keyInt hid)
  obtain ⟨e, rfl, he⟩ := entR_inv hv
  rw [hrun]
  congr 1
  cases hn : named es id
  · rw [Maps.atKey_of_not_has ((h3 id).trans hn)] at he
    rw [find_not hn]
    exact congrArg Ent.val (datum_inj (congrArg Prod.fst he)).symm
  · obtain ⟨f1, f2⟩ := find_of hn
    have := h4 _ f1 Ent.zero.datum
    rw [f2] at this
    rw [this] at he
    exact congrArg Ent.val (datum_inj (congrArg Prod.fst he)).symm
theorem Mp.len {w : World} {m : Nat} {es : List Ent} (h : Mp w m es) (ty : TypeId) : (Builtin.len_ #[mapT] ty #[.map (some m)]).run Try.prog w = .ok (.int .i64 (es.length : Int)) w := by
  obtain ⟨D, h1, h2, h3, h4⟩ := h
  rw [h1.len underMap ty, h2]
/-- 'm[e.id] = e' of one that is not there. -/
theorem Mp.put {w : World} {m : Nat} {es : List Ent} (h : Mp w m es) {e : Ent} (hid : I64 e.id) (hn : named es e.id = false) (hl : es.length ≤ 1000) :
    ∃ w', (Instr.mapUpdate mapT (.map (some m)) (.int .i64 e.id) e.val).run Try.prog w = .ok () w' ∧ Mp w' m (e :: es) ∧ w.mapTurned w' m := by
  obtain ⟨D, h1, h2, h3, h4⟩ := h
  obtain ⟨w', hrun, ho, ht⟩ := h1.store law underMap (by unfold maxLen; omega) (keyInt hid) (entR_mk e)
  refine ⟨w', hrun, ⟨D.put (.int .i64 e.id) e.datum, ho, ?_, ?_, ?_⟩, ht⟩
  · rw [Maps.size_put (h1.tidy law), (h3 e.id).trans hn]; simp [h2]
  · intro id
    by_cases hx : id = e.id
    · subst hx
      rw [Maps.has_put_same h1.isMap (keyLit _)]; simp [named]
    · rw [Maps.has_put_other (keyNe hx), h3 id]
      have : (e.id == id) = false := by simpa using fun e2 => hx e2.symm
      simp [named, this]
  · intro x hx z
    rcases List.mem_cons.1 hx with rfl | hx
    · exact Maps.atKey_put_same h1.isMap (keyLit _) _ _
    · have hne : x.id ≠ e.id := fun e2 => by
        have : named es e.id = true := List.any_eq_true.2 ⟨x, hx, by simp [e2]⟩
        rw [hn] at this; cases this
      rw [Maps.atKey_put_other (keyNe hne)]
      exact h4 x hx z
/-- All but the one of that number. -/
def drop (es : List Ent) (id : Int) : List Ent := es.filter fun e => decide (e.id ≠ id)
theorem named_drop (es : List Ent) (id j : Int) : named (drop es id) j = (named es j && decide (j ≠ id)) := by
  unfold named drop
  rw [List.any_filter]
  induction es with
  | nil => simp
  | cons x l ih =>
    simp only [List.any_cons, ih]
    by_cases h1 : x.id = j
    · subst h1
      by_cases h2 : x.id = id <;> simp [h2]
    · have : (x.id == j) = false := by simpa using h1
      simp [this]
theorem len_drop {es : List Ent} (h : Once es) {id : Int} (hn : named es id = true) : (drop es id).length + 1 = es.length := by
  induction es with
  | nil => simp [named] at hn
  | cons x l ih =>
    unfold Once at h
    rw [List.pairwise_cons] at h
    unfold drop
    rw [List.filter_cons]
    by_cases hx : x.id = id
    · have : l.filter (fun e => decide (e.id ≠ id)) = l := by
        rw [List.filter_eq_self]
        intro y hy
        simp
        exact fun e => h.1 y hy (by rw [hx, e])
      rw [if_neg (by simp [hx]), this]
      simp
    · have hl : named l id = true := by
        unfold named at hn ⊢
        rw [List.any_cons, show (x.id == id) = false by simpa using hx, Bool.false_or] at hn
        exact hn
      have := ih h.2 hl
      unfold drop at this
      rw [if_pos (by simp [hx]), List.length_cons, this, List.length_cons]
/-- 'delete(m, id)' of one that is there. -/
theorem Mp.del {w : World} {m : Nat} {es : List Ent} (h : Mp w m es) {id : Int} (hid : I64 id) (ho : Once es) (hn : named es id = true) (ty : TypeId) :
    ∃ w', (Builtin.delete_ #[mapT, 3] ty #[.map (some m), .int .i64 id]).run Try.prog w = .ok (.tuple #[]) w' ∧ Mp w' m (drop es id) ∧ w.mapTurned w' m := by
  obtain ⟨D, h1, h2, h3, h4⟩ := h
  obtain ⟨w', hrun, hown, ht⟩ := h1.drop law underMap (keyInt hid) ty
  have hs : Maps.size (D.del (.int .i64 id)) = (drop es id).length := by
    have e1 := Maps.size_del (k := .int .i64 id) (h1.tidy law)
    rw [(h3 id).trans hn] at e1
    have e2 := len_drop ho hn
    simp at e1
    omega
  refine ⟨w', hrun, ⟨D.del (.int .i64 id), hs ▸ tight hown, hs, ?_, ?_⟩, ht⟩
  · intro j
    rw [named_drop]
    by_cases hx : j = id
    · subst hx
      rw [Maps.has_del_same]; simp
    · rw [Maps.has_del_other (keyNe hx), h3 j]
      simp [hx]
  · intro x hx z
    unfold drop at hx
    rw [List.mem_filter] at hx
    have hne : x.id ≠ id := by simpa using hx.2
    rw [Maps.atKey_del_other (keyNe hne)]
    exact h4 x hx.1 z
/-- 'm[e.id] = e' of one that is there. -/
theorem Mp.set {w : World} {m : Nat} {es : List Ent} (h : Mp w m es) {e : Ent} (hid : I64 e.id) (ho : Once es) (hn : named es e.id = true) (hl : es.length ≤ 1000) :
    ∃ w', (Instr.mapUpdate mapT (.map (some m)) (.int .i64 e.id) e.val).run Try.prog w = .ok () w' ∧ Mp w' m (e :: drop es e.id) ∧ w.mapTurned w' m := by
  obtain ⟨D, h1, h2, h3, h4⟩ := h
  obtain ⟨w', hrun, hown, ht⟩ := h1.store law underMap (by unfold maxLen; omega) (keyInt hid) (entR_mk e)
  have hs : Maps.size (D.put (.int .i64 e.id) e.datum) = (e :: drop es e.id).length := by
    rw [Maps.size_put (h1.tidy law), (h3 e.id).trans hn, List.length_cons, len_drop ho hn]
    simpa using h2
  refine ⟨w', hrun, ⟨D.put (.int .i64 e.id) e.datum, hs ▸ tight hown, hs, ?_, ?_⟩, ht⟩
  · intro j
    by_cases hx : j = e.id
    · subst hx
      rw [Maps.has_put_same h1.isMap (keyLit _)]; simp [named]
    · rw [Maps.has_put_other (keyNe hx), h3 j]
      have : (e.id == j) = false := by simpa using fun e2 => hx e2.symm
      have e3 := named_drop es e.id j
      simp only [named, List.any_cons, this, Bool.false_or] at e3 ⊢
      rw [e3]; simp [hx]
  · intro x hx z
    rcases List.mem_cons.1 hx with rfl | hx
    · exact Maps.atKey_put_same h1.isMap (keyLit _) _ _
    · unfold drop at hx
      rw [List.mem_filter] at hx
      have hne : x.id ≠ e.id := by simpa using hx.2
      rw [Maps.atKey_put_other (keyNe hne)]
      exact h4 x hx.1 z
end Go.Proofs.Yteoemafdknmklaa.Queue
