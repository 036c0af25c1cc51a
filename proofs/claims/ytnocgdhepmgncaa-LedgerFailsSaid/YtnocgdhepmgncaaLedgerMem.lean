/- A book in memory: two accounts in maps, and their total. Conditions: as each fact states them. -/
import Derived.Test.YtnocgdhepmgncaaLedgerPlain
import Derived.Test.YtnocgdhepmgncaaMem
import Derived.Maps.OwnSet
import Derived.Maps.OwnOps
import Derived.Laws.Cover3
namespace Go.Proofs.Ytnocgdhepmgncaa.Ledger
open Go.ChangeShapes Go.WideShapes Go.ChangeAt Go.RowKit Mem
set_option linter.unusedVariables false
set_option linter.unusedSimpArgs false

theorem wf64 {a : Int} (h : I64 a) : (Lit.int .i64 a).wf = true := by
  obtain ⟨h1, h2⟩ := h
  simp [Lit.wf, IntKind.min, IntKind.max, IntKind.signed, IntKind.bits]
  omega
theorem key {i : Int} (h : I64 i) : keyOf Try.prog 3 (.int .i64 i) = some (.int .i64 i) := Maps.keyOf_int_mk Try.underlying3 (wf64 h)
theorem isKey (i : Int) : WideAt.IsKeyLit (.int .i64 i) := by simp [WideAt.IsKeyLit]
theorem lit_ne {i j : Int} (h : i ≠ j) : (Lit.int .i64 i : Lit) ≠ .int .i64 j := fun e => h (by simpa using e)
/-- An account: who had what. -/
def Acc (w : World) (m N : Nat) (f : Int → Int) : Prop :=
  ∃ D : DataW Unit, w.ownsMap Try.prog 3 (plainElem Try.prog 2) m N D ∧ (∀ i, D.atKey (.int .i64 i) (.lit (.int .i64 0)) = .lit (.int .i64 (f i))) ∧ (∀ i, Maps.has D (.int .i64 i) = decide (f i ≠ 0))
section
variable {w w' : World} {m N : Nat} {f : Int → Int}
theorem Acc.lt (h : Acc w m N f) : m < w.heap.size := by obtain ⟨D, h1, _⟩ := h; exact h1.lt
theorem Acc.mono (h : Acc w m N f) {N' : Nat} (hN : N ≤ N') : Acc w m N' f := by obtain ⟨D, h1, h2⟩ := h; exact ⟨D, h1.mono hN, h2⟩
theorem Acc.on (h : Acc w m N f) (e : w'.heap[m]? = w.heap[m]?) : Acc w' m N f := by
  obtain ⟨D, ⟨es, clock, hb, h1⟩, h2⟩ := h
  exact ⟨D, ⟨es, clock, e.trans hb, h1⟩, h2⟩
theorem Acc.fresh (h : Acc w m N f) (hg : Below w.heap.size w w') : Acc w' m N f := h.on (hg.block m h.lt)
theorem Acc.made (w : World) : Acc (w.alloc (.map #[] 0)) w.heap.size 0 (fun _ => 0) :=
  ⟨.map [], World.ownsMap_made w Try.prog 3 (plainElem Try.prog 2), fun i => rfl, fun i => by simp [Maps.has]⟩
theorem Acc.look (h : Acc w m N f) {i : Int} (hi : I64 i) : (Instr.lookup 54 (.map (some m)) (.int .i64 i) false).run Try.prog w = .ok (.int .i64 (f i)) w := by
  obtain ⟨D, h1, h2, h3⟩ := h
  obtain ⟨c, hr, hc, _⟩ := h1.lookup_int (Maps.int_keyed Try.underlying3) Try.underlying54 Try.underlying2 (Try.zeroValue2 w) (key hi)
  rw [h2 i] at hc
  have : f i = c := by simpa using hc
  rw [this]
  exact hr
theorem Acc.isMap (h : Acc w m N f) : ∃ D : DataW Unit, (w.ownsMap Try.prog 3 (plainElem Try.prog 2) m N D ∧ (∀ i, D.atKey (.int .i64 i) (.lit (.int .i64 0)) = .lit (.int .i64 (f i))) ∧ (∀ i, Maps.has D (.int .i64 i) = decide (f i ≠ 0))) ∧ Maps.IsMap D := by
  obtain ⟨D, h1, h2⟩ := h
  exact ⟨D, ⟨h1, h2⟩, h1.isMap⟩
theorem Acc.put (h : Acc w m N f) {i v : Int} (hi : I64 i) (hv : I64 v) (h0 : v ≠ 0) (hN : N < maxLen) :
    ∃ w', (Instr.mapUpdate 54 (.map (some m)) (.int .i64 i) (.int .i64 v)).run Try.prog w = .ok () w' ∧ Acc w' m (N + 1) (upd f i v) ∧ w.grownBy w' (some m) := by
  obtain ⟨D, ⟨h1, h2, h3⟩, hm⟩ := h.isMap
  obtain ⟨w', hr, ho, hg⟩ := h1.update (Maps.int_keyed Try.underlying3) Try.underlying54 hN (key hi) (plainElem_int Try.underlying2 (wf64 hv))
  refine ⟨w', hr, ⟨_, ho, fun j => ?_, fun j => ?_⟩, hg⟩
  · by_cases e : j = i
    · subst e
      rw [Maps.atKey_put_same hm (isKey _), upd_at]
    · rw [Maps.atKey_put_other (lit_ne e), h2, upd_ne _ e]
  · by_cases e : j = i
    · subst e
      rw [Maps.has_put_same hm (isKey _), upd_at]
      simpa using h0
    · rw [Maps.has_put_other (lit_ne e), h3, upd_ne _ e]
theorem Acc.del (h : Acc w m N f) {i : Int} (hi : I64 i) (ty : TypeId) :
    ∃ w', (Builtin.delete_ #[54, 3] ty #[.map (some m), .int .i64 i]).run Try.prog w = .ok (.tuple #[]) w' ∧ Acc w' m N (upd f i 0) ∧ w.grownBy w' (some m) := by
  obtain ⟨D, ⟨h1, h2, h3⟩, hm⟩ := h.isMap
  obtain ⟨w', hr, ho, hg⟩ := h1.drop (Maps.int_keyed Try.underlying3) Try.underlying54 (key hi) ty
  refine ⟨w', hr, ⟨_, ho, fun j => ?_, fun j => ?_⟩, hg.grown⟩
  · by_cases e : j = i
    · subst e
      rw [Maps.atKey_del_same, upd_at]
    · rw [Maps.atKey_del_other (lit_ne e), h2, upd_ne _ e]
  · by_cases e : j = i
    · subst e
      rw [Maps.has_del_same, upd_at]
      rfl
    · rw [Maps.has_del_other (lit_ne e), h3, upd_ne _ e]
end

/-- Nothing has changed but what stands in the blocks from lo to hi, and new ones. -/
structure But (lo hi : Nat) (w w' : World) : Prop where
  os : w'.os = w.os
  tape : w'.tape = w.tape
  output : w'.output = w.output
  size : w.heap.size ≤ w'.heap.size
  block : ∀ k, k < w.heap.size → (k < lo ∨ hi ≤ k) → w'.heap[k]? = w.heap[k]?
theorem But.refl (lo hi : Nat) (w : World) : But lo hi w w := ⟨rfl, rfl, rfl, Nat.le_refl _, fun _ _ _ => rfl⟩
theorem But.trans {lo hi : Nat} {a b c : World} (h : But lo hi a b) (k : But lo hi b c) : But lo hi a c :=
  ⟨k.os.trans h.os, k.tape.trans h.tape, k.output.trans h.output, Nat.le_trans h.size k.size, fun i hi ho => (k.block i (Nat.lt_of_lt_of_le hi h.size) ho).trans (h.block i hi ho)⟩
theorem But.of {lo hi : Nat} {a b : World} (h : Below a.heap.size a b) : But lo hi a b := ⟨h.os, h.tape, h.output, h.size, fun i hi _ => h.block i hi⟩
theorem But.below {lo hi B : Nat} {a b : World} (h : But lo hi a b) (hB : B ≤ lo) (hs : B ≤ a.heap.size) : Below B a b := ⟨h.os, h.tape, h.output, h.size, fun i hi => h.block i (by omega) (.inl (by omega))⟩
theorem But.grown {lo hi : Nat} {a b : World} {m : Nat} (h : a.grownBy b (some m)) (h1 : lo ≤ m) (h2 : m < hi) : But lo hi a b :=
  ⟨h.os, h.tape, h.output, h.size, fun i hi ho => h.block i hi (fun e => by cases e; omega)⟩
theorem But.setCell {lo hi : Nat} {a : World} {p : Addr} (h1 : lo ≤ p.block) (h2 : p.block < hi) (u : Value) : But lo hi a (a.setCell p u) :=
  ⟨rfl, rfl, rfl, by simp [World.setCell], fun k hk ho => Below.heap_setCell _ _ _ _ (fun e => by omega)⟩
theorem But.row {lo hi : Nat} {w w' : World} {B : Nat} {e : TypeId} {size : Nat} {v : Value} {n : Nat} {xs : List Value} (h : But lo hi w w') (ho : w.ownsRow B e size v n xs) (hv : ∀ k, v.ownBlock = some k → k < lo ∨ hi ≤ k) : w'.ownsRow B e size v n xs := by
  refine ⟨ho.1, ?_⟩
  rcases ho.2 with h1 | ⟨g, cap, cur, rfl, h0, hg, h1⟩
  · exact .inl h1
  · exact .inr ⟨g, cap, cur, rfl, h0, by rw [h.block g (lt_of hg) (hv g rfl), hg], h1⟩

/-- A book: its block, and its two maps'. -/
structure Parts (w : World) (lo hi b mt mg N : Nat) (s : Bk) : Prop where
  blk : w.heap[b]? = some (.cells #[.map (some mt), .map (some mg), .int .i64 s.tot] 56 (0, 0))
  t : Acc w mt N s.t
  g : Acc w mg N s.g
  b0 : lo ≤ b
  b1 : b < hi
  t0 : lo ≤ mt
  t1 : mt < hi
  g0 : lo ≤ mg
  g1 : mg < hi
  bt : b ≠ mt
  bg : b ≠ mg
  tg : mt ≠ mg
  top : hi ≤ w.heap.size
def Book (w : World) (lo hi b N : Nat) (s : Bk) : Prop := ∃ mt mg, Parts w lo hi b mt mg N s
section
variable {w w' : World} {lo hi b mt mg N : Nat} {s : Bk}
theorem Parts.lt (h : Parts w lo hi b mt mg N s) : b < w.heap.size := lt_of h.blk
theorem Parts.fresh (h : Parts w lo hi b mt mg N s) (hg : Below w.heap.size w w') : Parts w' lo hi b mt mg N s :=
  { h with blk := box_fresh h.blk hg, t := h.t.fresh hg, g := h.g.fresh hg, top := Nat.le_trans h.top hg.size }
theorem Parts.mono (h : Parts w lo hi b mt mg N s) {N' : Nat} (hN : N ≤ N') : Parts w lo hi b mt mg N' s := { h with t := h.t.mono hN, g := h.g.mono hN }
theorem Parts.turnT (h : Parts w lo hi b mt mg N s) {f : Int → Int} {N' : Nat} (hg : w.grownBy w' (some mt)) (hN : N ≤ N') (ht : Acc w' mt N' f) : Parts w' lo hi b mt mg N' { s with t := f } :=
  { h with blk := box_kept h.blk hg (by simpa using h.bt.symm), t := ht, g := (h.g.on (hg.block mg h.g.lt (by simpa using h.tg.symm))).mono hN, top := Nat.le_trans h.top hg.size }
theorem Parts.turnG (h : Parts w lo hi b mt mg N s) {f : Int → Int} {N' : Nat} (hg : w.grownBy w' (some mg)) (hN : N ≤ N') (ht : Acc w' mg N' f) : Parts w' lo hi b mt mg N' { s with g := f } :=
  { h with blk := box_kept h.blk hg (by simpa using h.bg.symm), g := ht, t := (h.t.on (hg.block mt h.t.lt (by simpa using h.tg))).mono hN, top := Nat.le_trans h.top hg.size }
theorem Parts.turnS (h : Parts w lo hi b mt mg N s) (x : Int) : Parts (w.setCell ⟨b, 2, none⟩ (.int .i64 x)) lo hi b mt mg N { s with tot := x } :=
  { h with blk := by rw [set_block h.blk]; rfl, t := h.t.on (Below.heap_setCell _ _ _ _ (fun e => h.bt e.symm)), g := h.g.on (Below.heap_setCell _ _ _ _ (fun e => h.bg e.symm)), top := by simpa [World.setCell] using h.top }
theorem Book.lt (h : Book w lo hi b N s) : b < w.heap.size := by obtain ⟨mt, mg, h⟩ := h; exact h.lt
theorem Book.top (h : Book w lo hi b N s) : hi ≤ w.heap.size := by obtain ⟨mt, mg, h⟩ := h; exact h.top
theorem Book.le (h : Book w lo hi b N s) : lo ≤ hi := by obtain ⟨mt, mg, h⟩ := h; have := h.b0; have := h.b1; omega
theorem Book.fresh (h : Book w lo hi b N s) (hg : Below w.heap.size w w') : Book w' lo hi b N s := by obtain ⟨mt, mg, h⟩ := h; exact ⟨mt, mg, h.fresh hg⟩
theorem Book.mono (h : Book w lo hi b N s) {N' : Nat} (hN : N ≤ N') : Book w lo hi b N' s := by obtain ⟨mt, mg, h⟩ := h; exact ⟨mt, mg, h.mono hN⟩
end
/-- An answer; nothing that was there has changed. -/
def Is (v : Value) (w : World) (e : Ending) (w' : World) : Prop := e = .returned v ∧ Below w.heap.size w w'
theorem is_of {x y : Int} {k : IntKind} {w w' : World} (h : x = y) (hg : Below w.heap.size w w') : Is (.int k y) w (.returned (.int k x)) w' := by subst h; exact ⟨rfl, hg⟩

/-! ### the calls that read, and New -/
theorem made (w : World) (lo hi b N : Nat) (s : Bk) (h : Book w lo hi b N s) : Calls Try.prog 26 #[.pointer (some ⟨b, 0, none⟩)] w (Is (.bool true) w) := by
  obtain ⟨mt, mg, h⟩ := h
  obtain ⟨c0, c1, c2, cz⟩ := three h.blk
  have hq := fun w => run_neq_map_nil (P := Try.prog) w 54 _ _ (some mt) Try.underlying54
  clear h
  go_enter Try.func26, Try.ntmps26
  go_wp2
  go_ret
  exact ⟨rfl, Below.refl _ _⟩
theorem made_nil (w : World) : Calls Try.prog 26 #[.pointer none] w (Is (.bool false) w) := by
  go_enter Try.func26, Try.ntmps26
  go_wp2
  go_ret
  exact ⟨rfl, Below.refl _ _⟩
theorem task (w : World) (lo hi b N : Nat) (s : Bk) (i : Int) (hI : I64 i) (h : Book w lo hi b N s) : Calls Try.prog 19 #[.pointer (some ⟨b, 0, none⟩), .int .i64 i] w (Is (.int .i64 (s.t i)) w) := by
  have M := made w _ _ _ _ _ h
  have hF := h
  obtain ⟨mt, mg, h⟩ := h
  have HH := Lib.hid (fun w' (hg : Below w.heap.size w w') => (show _ ∧ _ from ⟨three (h.fresh hg).blk, (h.fresh hg).t.look hI⟩))
  clear h hF
  go_enter Try.func19, Try.ntmps19
  go_wp2_with (go_at_call 26; refine M.mono ?_; rintro e w1 ⟨rfl, hg1⟩; obtain ⟨⟨c0, c1, c2, cz⟩, hlk⟩ := HH.out _ hg1)
  go_ret
  exact ⟨rfl, hg1⟩
theorem group (w : World) (lo hi b N : Nat) (s : Bk) (i : Int) (hI : I64 i) (h : Book w lo hi b N s) : Calls Try.prog 20 #[.pointer (some ⟨b, 0, none⟩), .int .i64 i] w (Is (.int .i64 (s.g i)) w) := by
  have M := made w _ _ _ _ _ h
  have hF := h
  obtain ⟨mt, mg, h⟩ := h
  have HH := Lib.hid (fun w' (hg : Below w.heap.size w w') => (show _ ∧ _ from ⟨three (h.fresh hg).blk, (h.fresh hg).g.look hI⟩))
  clear h hF
  go_enter Try.func20, Try.ntmps20
  go_wp2_with (go_at_call 26; refine M.mono ?_; rintro e w1 ⟨rfl, hg1⟩; obtain ⟨⟨c0, c1, c2, cz⟩, hlk⟩ := HH.out _ hg1)
  go_ret
  exact ⟨rfl, hg1⟩
theorem total (w : World) (lo hi b N : Nat) (s : Bk) (h : Book w lo hi b N s) : Calls Try.prog 17 #[.pointer (some ⟨b, 0, none⟩)] w (Is (.int .i64 s.tot) w) := by
  have M := made w _ _ _ _ _ h
  obtain ⟨mt, mg, h⟩ := h
  have HH := Lib.hid (fun w' (hg : Below w.heap.size w w') => three (h.fresh hg).blk)
  clear h
  go_enter Try.func17, Try.ntmps17
  go_wp2_with (go_at_call 26; refine M.mono ?_; rintro e w1 ⟨rfl, hg1⟩; obtain ⟨c0, c1, c2, cz⟩ := HH.out _ hg1)
  go_ret
  exact ⟨rfl, hg1⟩
/-- A new book. -/
def Made (w : World) (e : Ending) (w' : World) : Prop := ∃ b, e = .returned (.pointer (some ⟨b, 0, none⟩)) ∧ Book w' w.heap.size w'.heap.size b 0 Bk.new ∧ Below w.heap.size w w'
theorem new (w : World) : Calls Try.prog 11 #[] w (Made w) := by
  have hmm := @run_makeMap Try.prog
  have F : Hid (Made w (.returned (.pointer (some ⟨w.heap.size + 1 + 1, 0, none⟩))) (((w.alloc (.map #[] 0)).alloc (.map #[] 0)).alloc (.cells #[.map (some w.heap.size), .map (some (w.heap.size + 1)), .int .i64 0] 56 (0, 0)))) := by
    have a1 := Acc.made w
    have a2 := Acc.made (w.alloc (.map #[] 0))
    have b1 := alloc1 w (.map #[] 0)
    have b2 := alloc1 (w.alloc (.map #[] 0)) (.map #[] 0)
    have z1 : (w.alloc (.map #[] 0)).heap.size = w.heap.size + 1 := World.size_alloc _ _
    have z2 : ((w.alloc (.map #[] 0)).alloc (.map #[] 0)).heap.size = w.heap.size + 1 + 1 := by rw [World.size_alloc, z1]
    rw [z1] at a2
    generalize (w.alloc (.map #[] 0)).alloc (.map #[] 0) = W2 at *
    generalize w.alloc (.map #[] 0) = W1 at *
    have b3 := alloc1 W2 (.cells #[.map (some w.heap.size), .map (some (w.heap.size + 1)), .int .i64 0] 56 (0, 0))
    have hn := heap_alloc_new W2 (.cells #[.map (some w.heap.size), .map (some (w.heap.size + 1)), .int .i64 0] 56 (0, 0))
    have z3 : (W2.alloc (.cells #[.map (some w.heap.size), .map (some (w.heap.size + 1)), .int .i64 0] 56 (0, 0))).heap.size = w.heap.size + 1 + 1 + 1 := by rw [World.size_alloc, z2]
    rw [z2] at hn
    generalize W2.alloc (.cells #[.map (some w.heap.size), .map (some (w.heap.size + 1)), .int .i64 0] 56 (0, 0)) = W3 at *
    refine ⟨_, rfl, ⟨w.heap.size, w.heap.size + 1, ⟨hn, (a1.fresh b2).fresh b3, a2.fresh b3, by omega, by omega, by omega, by omega, by omega, by omega, by omega, by omega, by omega, by omega⟩⟩, fresh_trans b1 (fresh_trans b2 b3)⟩
  go_enter Try.func11, Try.ntmps11
  go_wp2
  go_ret
  exact F.out
end Go.Proofs.Ytnocgdhepmgncaa.Ledger
