/- A book beside a list of deeds: each credit and each forgetting. Conditions: as each fact states them. -/
import Derived.Test.YtnocgdhepmgncaaLedgerEnd
namespace Go.Proofs.Ytnocgdhepmgncaa.Ledger
open Go.ChangeShapes Go.WideShapes Go.ChangeAt Go.RowKit Go.Sort Mem
set_option linter.unusedVariables false
set_option linter.unusedSimpArgs false
set_option maxRecDepth 100000

structure Run (w : World) (lo hi b : Nat) (v : Option Addr) (l : List De) (N : Nat) (s : Bk) (wr : World) : Prop where
  ok : Ok s
  book : Book wr lo hi b N s
  lst : Lst v l wr
  low : ∀ k off, v = some ⟨k, off, none⟩ → k < lo
  des : ∀ d ∈ l, d.Is lo wr
  base : w.heap.size ≤ lo
  below : Below w.heap.size w wr
section
variable {w : World} {lo hi b : Nat} {v : Option Addr} {l : List De} {N : Nat} {s : Bk} {wr w' : World}
theorem Run.lo_le (h : Run w lo hi b v l N s wr) : lo ≤ wr.heap.size := Nat.le_trans h.book.le h.book.top
theorem Run.fresh (h : Run w lo hi b v l N s wr) (hg : Below wr.heap.size wr w') : Run w lo hi b v l N s w' :=
  ⟨h.ok, h.book.fresh hg, h.lst.fresh hg, h.low, fun d hd => (h.des d hd).fresh h.lo_le (hg.mono h.lo_le), h.base, h.below.trans (hg.mono h.below.size)⟩
theorem Run.turn (h : Run w lo hi b v l N s wr) {N' : Nat} {s' : Bk} (ho : Ok s') (hb : Book w' lo hi b N' s') (hg : But lo hi wr w') : Run w lo hi b v l N' s' w' :=
  ⟨ho, hb, h.lst.on hg.size (fun k off e hk => hg.block k hk (.inl (h.low k off e))), h.low, fun d hd => (h.des d hd).fresh h.lo_le (hg.below (Nat.le_refl _) h.lo_le), h.base, But.lower h.below hg h.base⟩
theorem Run.mono (h : Run w lo hi b v l N s wr) {N' : Nat} (hN : N ≤ N') : Run w lo hi b v l N' s wr := { h with book := h.book.mono hN }
theorem Run.credit (h : Run w lo hi b v l N s wr) (hN : N ≤ 900000) {d : De} (hd : d ∈ l) (W' : World) (hW : Below wr.heap.size wr W') :
    Calls Try.prog 15 #[.pointer (some ⟨b, 0, none⟩), .slice d.a d.n d.c, .int .i64 d.t, .int .i64 d.ns] W' (fun e w2 => e = .returned (.int .i64 (code s d.xs d.t d.ns)) ∧ Run w lo hi b v l (N + 21) (cre s d.xs d.t d.ns) w2) := by
  have h' := h.fresh hW
  have hi := h'.des d hd
  have hf := hi.few
  refine (Ledger.credit W' lo _ b N s d.a d.n d.c d.xs d.t d.ns h.ok h'.book (hi.path.lift fun k hk => .inl hk) hi.t hi.ns (by omega)).mono ?_
  rintro e w2 ⟨rfl, hB, hbut⟩
  exact ⟨rfl, h'.turn (h.ok.cre _ _ _) (hB.mono (by omega)) hbut⟩
theorem Run.forget (h : Run w lo hi b v l N s wr) {i : Int} (hI : I64 i) (W' : World) (hW : Below wr.heap.size wr W') :
    Calls Try.prog 12 #[.pointer (some ⟨b, 0, none⟩), .int .i64 i] W' (fun e w2 => e = .returned (.int .i64 (s.t i)) ∧ Run w lo hi b v l N (fgt s i) w2) := by
  have h' := h.fresh hW
  refine (Ledger.forget W' lo _ b N s i hI h'.book).mono ?_
  rintro e w2 ⟨rfl, hB, hbut⟩
  exact ⟨rfl, h'.turn (h.ok.fgt _) hB hbut⟩
theorem Run.task (h : Run w lo hi b v l N s wr) {i : Int} (hI : I64 i) : Calls Try.prog 19 #[.pointer (some ⟨b, 0, none⟩), .int .i64 i] wr (Is (.int .i64 (s.t i)) wr) := Ledger.task wr lo _ b N s i hI h.book
theorem Run.group (h : Run w lo hi b v l N s wr) {i : Int} (hI : I64 i) : Calls Try.prog 20 #[.pointer (some ⟨b, 0, none⟩), .int .i64 i] wr (Is (.int .i64 (s.g i)) wr) := Ledger.group wr lo _ b N s i hI h.book
theorem Run.total (h : Run w lo hi b v l N s wr) : Calls Try.prog 17 #[.pointer (some ⟨b, 0, none⟩)] wr (Is (.int .i64 s.tot) wr) := Ledger.total wr lo _ b N s h.book
theorem Run.tasks (h : Run w lo hi b v l N s wr) (hN : N ≤ 1000000) : Calls Try.prog 23 #[.pointer (some ⟨b, 0, none⟩)] wr (Told s.t wr) := Ledger.tasks wr lo _ b N s hN h.book
/-- The deed in place k: its cells, in whatever world there is. -/
theorem Run.cells (h : Run w lo hi b v l N s wr) {k : Nat} (hk : k < l.length) : ∃ k1 o1 d, v = some ⟨k1, o1, none⟩ ∧ l[k]? = some d ∧ d ∈ l ∧ (I64 d.t ∧ I64 d.ns ∧ d.n ≤ 20) ∧ ∀ N' s' w', Run w lo hi b v l N' s' w' →
    w'.cell? ⟨k1, o1 + k * 4, none⟩ = some (.slice d.a d.n d.c) ∧ w'.cell? ⟨k1, o1 + k * 4 + 1, none⟩ = some (.int .i64 d.t) ∧ w'.cell? ⟨k1, o1 + k * 4 + 2, none⟩ = some (.int .i64 d.ns) ∧ w'.cell? ⟨k1, o1 + k * 4 + 3, none⟩ = some (.bool d.gone) := by
  have hd : l[k]? = some l[k] := List.getElem?_eq_getElem hk
  generalize l[k] = d at hd
  have hm := List.mem_of_getElem? hd
  obtain ⟨k1, o1, e, _⟩ := h.lst k d hd
  have hi := h.des d hm
  refine ⟨k1, o1, d, e, hd, hm, ⟨hi.t, hi.ns, hi.few⟩, fun N' s' w' h' => ?_⟩
  obtain ⟨k2, o2, e2, _, c⟩ := h'.lst k d hd
  rw [e] at e2
  cases e2
  exact c
end
/-- How each law begins: few, then New. -/
theorem begin_run {w w1 w2 w3 : World} {b : Nat} {v : Option Addr} {l : List De} (hg : Below w.heap.size w w1) (hd : ∀ d ∈ l, d.Is w1.heap.size w1) (hl : Lst v l w2) (hv : ∀ k off, v = some ⟨k, off, none⟩ → w1.heap.size ≤ k ∧ k < w2.heap.size) (hg2 : Below w1.heap.size w1 w2)
    (hB : Book w3 w2.heap.size w3.heap.size b 0 Bk.new) (hg3 : Below w2.heap.size w2 w3) : Run w w2.heap.size w3.heap.size b v l 0 Bk.new w3 := by
  refine ⟨Ok.new, hB, hl.fresh hg3, ?_, fun d hd' => ?_, Nat.le_trans hg.size hg2.size, fresh_trans hg (fresh_trans hg2 hg3)⟩
  · exact fun k off e => (hv k off e).2
  · have h1 := ((hd d hd').fresh (Nat.le_refl _) hg2).fresh hg2.size (hg3.mono hg2.size)
    exact { h1 with path := h1.path.lift fun k hk => Nat.lt_of_lt_of_le hk hg2.size }
end Go.Proofs.Ytnocgdhepmgncaa.Ledger
