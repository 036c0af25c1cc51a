/- A book, the document's list, and their boxes, through a deed. Conditions: as each fact states them. -/
import Derived.Test.YtnocgdhepmgncaaLedgerFailsW
import Derived.Test.YtnocgdhepmgncaaLedgerDocF
import Derived.Test.YtnocgdhepmgncaaLedgerDocT
namespace Go.Proofs.Ytnocgdhepmgncaa.Ledger
open Go.ChangeShapes Go.WideShapes Go.ChangeAt Go.RowKit Go.Sort Mem
set_option linter.unusedVariables false
set_option linter.unusedSimpArgs false
set_option maxRecDepth 100000

theorem Doc.keep2 {lo hi h2 : Nat} {v : Option Addr} {c : Nat} {l : List De} {w w' : World} (h : Doc lo h2 v c l w) (hg : But lo hi w w') (hh : hi ≤ h2) : Doc lo h2 v c l w' :=
  { h with lst := h.lst.on hg.size (fun k off e hk => hg.block k hk (by obtain ⟨g, e2, h3⟩ := h.base _ e; cases e2; exact .inr (Nat.le_trans hh h3))), des := fun r hr => (h.des r hr).fresh h.size (hg.below (Nat.le_refl _) h.size), size := Nat.le_trans h.size hg.size }
theorem But.kept {lo hi : Nat} {w w' : World} {k : Nat} {o : Obj} (hg : But lo hi w w') (h : w.heap[k]? = some o) (hk : hi ≤ k) : w'.heap[k]? = some o := (hg.block k (lt_of h) (.inr hk)).trans h
/-- Beside each other: the book, the deeds, the document's list in its box. -/
structure Pb (w : World) (lo hi b : Nat) (v : Option Addr) (l : List De) (X N : Nat) (s : Bk) (xv : Option Addr) (xc : Nat) (R : List De) (wr : World) : Prop where
  run : Run w lo hi b v l N s wr
  xb : wr.heap[X]? = some (docO xv R.length xc)
  doc : Doc lo (X + 1) xv xc R wr
  hX : hi ≤ X
abbrev deO (d : De) : Obj := .cells #[.slice d.a d.n d.c, .int .i64 d.t, .int .i64 d.ns, .bool d.gone] 32 (0, 0)
/-- .. and the deed in its box. -/
structure Pl (w : World) (lo hi b : Nat) (v : Option Addr) (l : List De) (X q : Nat) (d : De) (N : Nat) (s : Bk) (xv : Option Addr) (xc : Nat) (R : List De) (wr : World) : Prop extends Pb w lo hi b v l X N s xv xc R wr where
  bd : wr.heap[q]? = some (deO d)
  hq : X < q
  mem : d ∈ l
section
variable {w : World} {lo hi b : Nat} {v : Option Addr} {l : List De} {X q : Nat} {d : De} {N : Nat} {s : Bk} {xv : Option Addr} {xc : Nat} {R : List De} {wr w' : World}
theorem Pb.fresh (h : Pb w lo hi b v l X N s xv xc R wr) (hg : Below wr.heap.size wr w') : Pb w lo hi b v l X N s xv xc R w' := ⟨h.run.fresh hg, box_fresh h.xb hg, h.doc.fresh hg, h.hX⟩
theorem Pb.turn (h : Pb w lo hi b v l X N s xv xc R wr) {N' : Nat} {s' : Bk} (ho : Ok s') (hb : Book w' lo hi b N' s') (hg : But lo hi wr w') : Pb w lo hi b v l X N' s' xv xc R w' :=
  ⟨h.run.turn ho hb hg, hg.kept h.xb h.hX, h.doc.keep2 hg (Nat.le_succ_of_le h.hX), h.hX⟩
theorem Pl.fresh (h : Pl w lo hi b v l X q d N s xv xc R wr) (hg : Below wr.heap.size wr w') : Pl w lo hi b v l X q d N s xv xc R w' := ⟨h.toPb.fresh hg, box_fresh h.bd hg, h.hq, h.mem⟩
theorem Pl.turn (h : Pl w lo hi b v l X q d N s xv xc R wr) {N' : Nat} {s' : Bk} (ho : Ok s') (hb : Book w' lo hi b N' s') (hg : But lo hi wr w') : Pl w lo hi b v l X q d N' s' xv xc R w' :=
  ⟨h.toPb.turn ho hb hg, hg.kept h.bd (by have := h.hX; have := h.hq; omega), h.hq, h.mem⟩
theorem Pl.cells (h : Pl w lo hi b v l X q d N s xv xc R wr) : (wr.cell? ⟨X, 0, none⟩ = some (.slice xv R.length xc) ∧ (∀ j, wr.frozen? ⟨X, j, none⟩ = false)) ∧ (wr.cell? ⟨q, 0, none⟩ = some (.slice d.a d.n d.c) ∧ wr.cell? ⟨q, 1, none⟩ = some (.int .i64 d.t) ∧ wr.cell? ⟨q, 2, none⟩ = some (.int .i64 d.ns) ∧ wr.cell? ⟨q, 3, none⟩ = some (.bool d.gone) ∧ (∀ j, wr.frozen? ⟨q, j, none⟩ = false)) := ⟨one h.xb, four h.bd⟩
theorem Pl.is (h : Pl w lo hi b v l X q d N s xv xc R wr) : d.Is lo wr := h.run.des d h.mem
theorem Pl.credit (h : Pl w lo hi b v l X q d N s xv xc R wr) (hN : N ≤ 900000) :
    Calls Try.prog 15 #[.pointer (some ⟨b, 0, none⟩), .slice d.a d.n d.c, .int .i64 d.t, .int .i64 d.ns] wr (fun e w2 => e = .returned (.int .i64 (code s d.xs d.t d.ns)) ∧ Pl w lo hi b v l X q d (N + 21) (cre s d.xs d.t d.ns) xv xc R w2) := by
  have hd := h.is
  have hf := hd.few
  refine (Ledger.credit wr lo _ b N s d.a d.n d.c d.xs d.t d.ns h.run.ok h.run.book (hd.path.lift fun k hk => .inl hk) hd.t hd.ns (by omega)).mono ?_
  rintro e w2 ⟨rfl, hB, hbut⟩
  exact ⟨rfl, h.turn (h.run.ok.cre _ _ _) (hB.mono (by omega)) hbut⟩
theorem Pl.forget (h : Pl w lo hi b v l X q d N s xv xc R wr) :
    Calls Try.prog 12 #[.pointer (some ⟨b, 0, none⟩), .int .i64 d.t] wr (fun e w2 => e = .returned (.int .i64 (s.t d.t)) ∧ Pl w lo hi b v l X q d N (fgt s d.t) xv xc R w2) := by
  refine (Ledger.forget wr lo _ b N s d.t h.is.t h.run.book).mono ?_
  rintro e w2 ⟨rfl, hB, hbut⟩
  exact ⟨rfl, h.turn (h.run.ok.fgt _) hB hbut⟩
theorem Acc.keep {m M Y : Nat} {f : Int → Int} (h : Acc wr m M f) (hg : wr.grownBy w' (some Y)) (hne : m ≠ Y) : Acc w' m M f := h.on (hg.block m h.lt (fun e => hne (by simpa using e)))
/-- Another list into the document's box. -/
theorem Pb.store (h : Pb w lo hi b v l X N s xv xc R wr) {yv : Option Addr} {yc : Nat} {Q : List De} (hd : Doc lo (X + 1) yv yc Q wr) : Pb w lo hi b v l X N s yv yc Q (wr.setCell ⟨X, 0, none⟩ (.slice yv Q.length yc)) := by
  have hg := one_grown wr X 0 (.slice yv Q.length yc)
  have hX := h.hX
  have hlo := h.run.book.le
  obtain ⟨mt, mg, hP⟩ := h.run.book
  have hb1 := hP.b1
  have ht1 := hP.t1
  have hg1 := hP.g1
  have hsz : (wr.setCell ⟨X, 0, none⟩ (.slice yv Q.length yc)).heap.size = wr.heap.size := by simp [World.setCell]
  have hbl : Below lo wr (wr.setCell ⟨X, 0, none⟩ (.slice yv Q.length yc)) := (Below.refl _ _).setCell (p := ⟨X, 0, none⟩) (by show lo ≤ X; omega) _
  refine ⟨⟨h.run.ok, ⟨mt, mg, { hP with blk := box_kept hP.blk hg (by simp; omega), t := hP.t.keep hg (by omega), g := hP.g.keep hg (by omega), top := by rw [hsz]; exact hP.top }⟩, ?_, h.run.low, fun r hr => (h.run.des r hr).fresh h.run.lo_le hbl, h.run.base, ?_⟩, ?_, ?_, hX⟩
  · refine h.run.lst.on hg.size fun k off e hk => hg.block k hk (fun e2 => ?_)
    have := h.run.low k off e
    simp at e2
    omega
  · exact h.run.below.trans (hbl.mono h.run.base)
  · rw [set_block h.xb]; rfl
  · refine { hd with lst := hd.lst.on hg.size (fun k off e hk => hg.block k hk (fun e2 => ?_)), des := fun r hr => (hd.des r hr).fresh hd.size hbl, size := by rw [hsz]; exact hd.size }
    obtain ⟨g, e3, h3⟩ := hd.base _ e
    cases e3
    simp at e2
    omega
theorem Pl.store (h : Pl w lo hi b v l X q d N s xv xc R wr) {yv : Option Addr} {yc : Nat} {Q : List De} (hd : Doc lo (X + 1) yv yc Q wr) : Pl w lo hi b v l X q d N s yv yc Q (wr.setCell ⟨X, 0, none⟩ (.slice yv Q.length yc)) :=
  ⟨h.toPb.store hd, box_kept h.bd (one_grown wr X 0 _) (by have := h.hq; simp; omega), h.hq, h.mem⟩
end
end Go.Proofs.Ytnocgdhepmgncaa.Ledger
