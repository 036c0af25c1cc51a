/- What a piece of work makes of a bench, as plain data. Conditions: none. -/
import Derived.Test.YtfddefenmlcecaaBenchSet
import Derived.Test.YtfddefenmlcecaaQueueYieldG
import Derived.Test.YtfddefenmlcecaaQueueWeigh
import Derived.BigRegion
import Derived.Deep.RegionHeld3
import Derived.Deep.RegionWith
import Derived.Test.YtfddefenmlcecaaQueueSound
import Derived.Test.YtfddefenmlcecaaRunqWake
import Derived.Test.YtfddefenmlcecaaRows
import Derived.WalkKit
import Derived.ProofKit
import Derived.OpenShut
import Derived.Below
import Derived.WalkSmall
import Derived.Deep.AppendLies
import Derived.Maps.AppendAt
import Derived.Test.YtfddefenmlcecaaReadOn
import Derived.Deep.Slices
import Derived.Deep.Cut
import Derived.Deep.DeepCutAuto
import Derived.Deep.CutBlock
namespace Go.Proofs.Ytfddefenmlcecaa.Queue
open Go.ChangeShapes Go.WideShapes Go.ChangeAt Go.RowKit Tree
set_option linter.unusedVariables false
set_option linter.unusedSimpArgs false

structure Wk where
  kind : Int
  who : Int
  weight : Int
  ns : Int
  yields : Bool
/-- A bench's plain state. -/
structure Bn where
  st : St
  own : List Ent
def pickS (st : St) (g : Int) : St := { st with cur := chosen st g }
def yieldS (st : St) (g : Int) : St := { st with cur := yielded st g }
def heavyOf (w : Int) : Int := 64 + w % 4032
def Wk.id (k : Wk) : Int := k.who % 8
/-- Ahead of a charge. -/
def runS (st : St) (g : Int) (y : Bool) : St := if y then yieldS (pickS st g) g else pickS st g
def workB (n : Bn) (cr gr tk : Int) (weighs : Bool) (k : Wk) : Bn :=
  if k.kind = 0 then
    if named n.st.es k.id then ⟨pickS (dropS n.st k.id) gr, n.own.set k.id.toNat (find n.st.es k.id)⟩
    else ⟨pickS (putS n.st { (n.own[k.id.toNat]?.getD Ent.zero) with v := Renorm.wake (n.own[k.id.toNat]?.getD Ent.zero).v n.st.min cr }) gr, n.own⟩
  else if k.kind = 1 ∧ weighs = true then ⟨pickS (weighS n.st k.id (heavyOf k.weight)) gr, n.own⟩
  else if errCharge (runS n.st gr k.yields) (k.ns % (tk + 1)) = 0 then ⟨pickS (chargeS (runS n.st gr k.yields) (k.ns % (tk + 1))) gr, n.own⟩
  else ⟨runS n.st gr k.yields, n.own⟩
/-- Who was served, and for how long. -/
def workA (n : Bn) (cr gr tk : Int) (weighs : Bool) (k : Wk) : Int × Int :=
  if k.kind = 0 then (-1, 0)
  else if k.kind = 1 ∧ weighs = true then (-1, 0)
  else if errCharge (runS n.st gr k.yields) (k.ns % (tk + 1)) = 0 then ((runS n.st gr k.yields).cur, k.ns % (tk + 1))
  else (-1, 0)

/-- A bench whose queue is sound: each of the eight is of its number, and of a weight from 64 to 4095. -/
structure Good (n : Bn) (cr gr tk : Int) : Prop where
  sound : Sound n.st
  flag : n.st.flag = false
  heavy : ∀ e ∈ n.st.es, 64 ≤ e.wt ∧ e.wt ≤ 4095
  own : ∀ (i : Nat) (e : Ent), n.own[i]? = some e → e.id = (i : Int) ∧ 64 ≤ e.wt ∧ e.wt ≤ 4095 ∧ 0 ≤ e.rm ∧ e.rm < e.wt ∧ I64 e.v
  len : n.own.length = 8
end Go.Proofs.Ytfddefenmlcecaa.Queue

/- What a piece of work does that serves. Conditions: each number is one of its kind, the queue is sound. -/
namespace Go.Proofs.Ytfddefenmlcecaa.Queue
open Go.ChangeShapes Go.WideShapes Go.ChangeAt Go.RowKit Tree
set_option linter.unusedVariables false
set_option linter.unusedSimpArgs false
set_option maxRecDepth 100000

def Wk.cells (k : Wk) : Array Value := #[.int .i64 k.kind, .int .u8 k.who, .int .u32 k.weight, .int .u32 k.ns, .bool k.yields]
/-- A bench at work: the bench, its queue, the work's own box at p. -/
structure Wd (w0 : World) (b q p : Nat) (O : Nat → Prop) (own : List Ent) (cr gr tk : Int) (k : Wk) (st : St) (X : World) : Prop where
  be : Be X b q own cr gr tk
  qu : Qu X q (fun j => (O j ∨ j = b) ∨ j = p) st
  box : X.heap[p]? = some (.cells k.cells 61 (0, 0))
  old : ∀ j, (O j ∨ j = b) ∨ j = p → j < X.heap.size
  same : Same O w0 X
theorem Wd.drew {w0 : World} {b q p : Nat} {O : Nat → Prop} {own : List Ent} {cr gr tk : Int} {k : Wk} {st : St} {X : World} (h : Wd w0 b q p O own cr gr tk k st X) : Wd w0 b q p O own cr gr tk k st X.drew := ⟨h.be.on rfl, h.qu.fresh ((Below.refl _ X).drew), h.box, h.old, ⟨h.same.os, h.same.tape, h.same.output, h.same.size, h.same.block⟩⟩
theorem Wd.drewN {w0 : World} {b q p : Nat} {O : Nat → Prop} {own : List Ent} {cr gr tk : Int} {k : Wk} {st : St} {X : World} (h : Wd w0 b q p O own cr gr tk k st X) (n : Nat) : Wd w0 b q p O own cr gr tk k st (X.drewN n) := ⟨h.be.on rfl, h.qu.fresh (drawn X n), h.box, h.old, ⟨h.same.os, h.same.tape, h.same.output, h.same.size, h.same.block⟩⟩
theorem Wd.did {w0 : World} {b q p : Nat} {O : Nat → Prop} {own : List Ent} {cr gr tk : Int} {k : Wk} {st st' : St} {X Y : World} (h : Wd w0 b q p O own cr gr tk k st X) (hq : Qu Y q (fun j => (O j ∨ j = b) ∨ j = p) st') (hs : Same (fun j => (O j ∨ j = b) ∨ j = p) X Y) : Wd w0 b q p O own cr gr tk k st' Y :=
  ⟨h.be.on (hs.block b (.inl (.inr rfl))), hq, (hs.block p (.inr rfl)).trans h.box, fun j hj => Nat.lt_of_lt_of_le (h.old j hj) hs.size, h.same.trans (hs.mono (fun j hj => .inl (.inl hj)))⟩
theorem Wd.cells {w0 : World} {b q p : Nat} {O : Nat → Prop} {own : List Ent} {cr gr tk : Int} {k : Wk} {st : St} {X : World} (h : Wd w0 b q p O own cr gr tk k st X) :
    X.cell? ⟨b, 0, none⟩ = some (.pointer (some ⟨q, 0, none⟩)) ∧ X.cell? ⟨b, 33, none⟩ = some (.int .i64 cr) ∧ X.cell? ⟨b, 34, none⟩ = some (.int .i64 gr) ∧ X.cell? ⟨b, 35, none⟩ = some (.int .u64 tk) ∧
    X.cell? ⟨p, 0, none⟩ = some (.int .i64 k.kind) ∧ X.cell? ⟨p, 1, none⟩ = some (.int .u8 k.who) ∧ X.cell? ⟨p, 2, none⟩ = some (.int .u32 k.weight) ∧ X.cell? ⟨p, 3, none⟩ = some (.int .u32 k.ns) ∧ X.cell? ⟨p, 4, none⟩ = some (.bool k.yields) := by
  obtain ⟨c0, c1, c2, c3, _⟩ := h.be.cells
  refine ⟨c0, c1, c2, c3, ?_, ?_, ?_, ?_, ?_⟩
  all_goals rw [cell_of_row X p _ _ _ _ h.box]; rfl

/-- What a piece of work did. -/
def Worked (b q : Nat) (O : Nat → Prop) (own : List Ent) (cr gr tk : Int) (st : St) (a : Int × Int) (w : World) (e : Ending) (w' : World) : Prop :=
  e = .returned (.tuple #[.int .i64 a.1, .int .u64 a.2]) ∧ Be w' b q own cr gr tk ∧ Qu w' q (fun j => O j ∨ j = b) st ∧ Same O w w'

theorem Wd.start {w : World} {b q : Nat} {O : Nat → Prop} {own : List Ent} {cr gr tk : Int} (k : Wk) {st : St} (hB : Be w b q own cr gr tk) (hQ : Qu w q (fun j => O j ∨ j = b) st) (hO : ∀ j, O j → j < w.heap.size) :
    Wd w b q w.heap.size O own cr gr tk k st (w.alloc (.cells k.cells 61)) := by
  have G := (Below.refl _ w).alloc (Nat.le_refl _) (.cells k.cells 61)
  have hz : w.heap.size < (w.alloc (.cells k.cells 61)).heap.size := lt_of (heap_alloc_new w _)
  refine ⟨hB.fresh G, (hQ.other (fun j hj => hj.imp (fun h => h) (fun e => by omega))).fresh G, heap_alloc_new w _, ?_, Same.of G hO⟩
  rintro j ((hj | rfl) | rfl)
  · exact Nat.lt_of_lt_of_le (hO j hj) G.size
  · exact Nat.lt_of_lt_of_le hB.lt G.size
  · exact hz
theorem Wd.pick {w0 : World} {b q p : Nat} {O : Nat → Prop} {own : List Ent} {cr gr tk : Int} {k : Wk} {st : St} {X : World} (h : Wd w0 b q p O own cr gr tk k st X) (hs : Sound st) (hg : I64 gr) :
    Calls Try.prog 21 #[.pointer (some ⟨q, 0, none⟩), .int .i64 gr] X (Did (.int .i64 (chosen st gr)) (pickS st gr) q (fun j => (O j ∨ j = b) ∨ j = p) X) :=
  picks X q _ st gr h.qu h.old hs.once hs.cur hg (fun e he => (hs.each e he).2.2.2.2.2.2)
theorem Wd.charge {w0 : World} {b q p : Nat} {O : Nat → Prop} {own : List Ent} {cr gr tk : Int} {k : Wk} {st : St} {X : World} (h : Wd w0 b q p O own cr gr tk k st X) (hs : Sound st) {ns : Int} (hn : 0 ≤ ns) :
    Calls Try.prog 19 #[.pointer (some ⟨q, 0, none⟩), .int .u64 ns] X (Did (.int .i64 (errCharge st ns)) (chargeS st ns) q (fun j => (O j ∨ j = b) ∨ j = p) X) :=
  charges X q _ st ns h.qu h.old hs hn
theorem Wd.worked {w0 : World} {b q p : Nat} {O : Nat → Prop} {own : List Ent} {cr gr tk : Int} {k : Wk} {st : St} {X : World} (h : Wd w0 b q p O own cr gr tk k st X) (a c : Int) : Worked b q O own cr gr tk st (a, c) w0 (.returned (.tuple #[.int .i64 a, .int .u64 c])) X :=
  ⟨rfl, h.be, h.qu.other (fun j hj => .inl (.inl hj)), h.same⟩
theorem Wd.yield {w0 : World} {b q p : Nat} {O : Nat → Prop} {own : List Ent} {cr gr tk : Int} {k : Wk} {st : St} {X : World} (h : Wd w0 b q p O own cr gr tk k st X) (hs : Sound st) (hg : I64 gr) :
    Calls Try.prog 23 #[.pointer (some ⟨q, 0, none⟩), .int .i64 gr] X (Did (.int .i64 (yielded st gr)) (yieldS st gr) q (fun j => (O j ∨ j = b) ∨ j = p) X) :=
  yields X q _ st gr h.qu h.old hs.once hs.cur hg (fun e he => (hs.each e he).2.2.2.2.2.2)

theorem Sound.run {st : St} (h : Sound st) (g : Int) (y : Bool) : Sound (runS st g y) := by
  unfold runS
  cases y
  · exact h.pick g
  · have h1 : Sound (pickS st g) := h.pick g
    show Sound (yieldS (pickS st g) g)
    generalize pickS st g = s at *
    refine ⟨h1.once, h1.each, h1.few, ?_, h1.min⟩
    show I64 (yielded s g)
    have hc := (h1.pick g).cur
    unfold yielded
    split
    · cases ho : other s with
      | none => simp [I64]
      | some o =>
        have hm : o ∈ s.es := by
          unfold other at ho
          have := List.mem_of_mem_head? ho
          unfold drop at this
          exact (List.mem_filter.1 this).1
        have := h1.each o hm
        unfold I64
        simp only
        omega
    · exact hc

set_option maxHeartbeats 8000000 in
theorem work_run (w : World) (b q : Nat) (O : Nat → Prop) (own : List Ent) (cr gr tk : Int) (st : St) (k : Wk) (ws : Bool) (hB : Be w b q own cr gr tk) (hQ : Qu w q (fun j => O j ∨ j = b) st) (hO : ∀ j, O j → j < w.heap.size) (hs : Sound st) (hg : I64 gr)
    (h0 : (k.kind == 0) = false) (h1 : ¬ (k.kind = 1 ∧ ws = true)) (hw : 0 ≤ k.who ∧ k.who ≤ 255) (hn : 0 ≤ k.ns ∧ k.ns ≤ 4294967295) (ht : 1 ≤ tk ∧ tk ≤ 65536) (hy : k.yields = false) :
    Calls Try.prog 27 #[.pointer (some ⟨b, 0, none⟩), .agg k.cells, .bool ws] w (Worked b q O own cr gr tk (workB ⟨st, own⟩ cr gr tk ws k).st (workA ⟨st, own⟩ cr gr tk ws k) w) := by
  have W0 := Lib.hid (Wd.start k hB hQ hO)
  obtain ⟨c0, c33, c34, c35, k0, k1, k2, k3, k4⟩ := W0.out.cells
  rw [hy] at k4
  have PK := Lib.hid (fun X (h : Wd w b q w.heap.size O own cr gr tk k st X) => h.pick hs hg)
  have hk0 : k.kind ≠ 0 := by simpa using h0
  have eB : (workB ⟨st, own⟩ cr gr tk ws k).st = if errCharge (pickS st gr) (k.ns % (tk + 1)) = 0 then pickS (chargeS (pickS st gr) (k.ns % (tk + 1))) gr else pickS st gr := by
    unfold workB runS
    rw [if_neg hk0, if_neg h1, hy]
    simp only [Bool.false_eq_true, if_false]
    split <;> rfl
  have eA : workA ⟨st, own⟩ cr gr tk ws k = if errCharge (pickS st gr) (k.ns % (tk + 1)) = 0 then (chosen st gr, k.ns % (tk + 1)) else (-1, 0) := by
    unfold workA runS
    rw [if_neg hk0, if_neg h1, hy]
    simp only [Bool.false_eq_true, if_false]
    rfl
  rw [eB, eA]
  have hns : 0 ≤ k.ns % (tk + 1) := Int.emod_nonneg _ (by omega)
  have hs1 : Sound (pickS st gr) := hs.pick gr
  have CH := Lib.hid (fun X (h : Wd w b q w.heap.size O own cr gr tk k (pickS st gr) X) => h.charge hs1 hns)
  have PK2 := Lib.hid (fun X (h : Wd w b q w.heap.size O own cr gr tk k (chargeS (pickS st gr) (k.ns % (tk + 1))) X) => h.pick (hs1.charge hns) hg)
  have KW : k.kind = 1 ∧ ws = false ∨ (k.kind == 1) = false := by
    by_cases h : k.kind = 1
    · exact .inl ⟨h, by cases ws <;> simp_all⟩
    · exact .inr (by simpa using h)
  clear eB eA hB hQ hk0 h1 hs hs1 hg hns
  generalize pickS st gr = st1 at *
  generalize chosen st gr = who at *
  obtain ⟨kk, kw, kwt, kn, ky⟩ := k
  simp only at *
  subst hy
  obtain ⟨hw1, hw2⟩ := hw
  obtain ⟨hn1, hn2⟩ := hn
  obtain ⟨ht1, ht2⟩ := ht
  generalize hnse : kn % (tk + 1) = ns at *
  simp only [Wk.cells] at *
  have hwr : IntKind.u64.wrap (tk + 1) = tk + 1 := by rw [IntKind.wrap_u64]; omega
  have htz : ((tk + 1 : Int) == 0) = false := by simp; omega
  by_cases hz : errCharge st1 ns = 0
  · rw [if_pos hz, if_pos hz]
    rw [hz] at CH
    generalize chargeS st1 ns = st2 at *
    generalize pickS st2 gr = st3 at *
    rcases KW with ⟨rfl, rfl⟩ | hk1
    all_goals
      go_enter Try.func27, Try.ntmps27
      go_wp2_with fail
      generalize w.alloc (.cells #[.int .i64 _, .int .u8 kw, .int .u32 kwt, .int .u32 kn, .bool false] 61) = X0 at *
      generalize w.heap.size = p at *
      go_region_held3 (fun w' => w'.cell? ⟨b, 0, none⟩ = some (.pointer (some ⟨q, 0, none⟩)) ∧ w'.cell? ⟨b, 34, none⟩ = some (.int .i64 gr)) (first | exact ⟨c0, c34⟩ | exact ⟨d0, d34⟩)
        (first
          | (go_at_call 21; refine (PK.out _ W0.out.drew).mono ?_; rintro e w1 ⟨rfl, q1, s1⟩; have W1 := Lib.hid (W0.out.drew.did q1 s1); clear q1 s1; obtain ⟨d0, d33, d34, d35, j0, j1, j2, j3, j4⟩ := W1.out.cells))
      go_wp2_with fail
      go_quiet (fail)
      have W2 := Lib.hid (W1.out.drewN nq)
      obtain ⟨f0, f33, f34, f35, g0, g1, g2, g3, g4⟩ := W2.out.cells
      clear d0 d33 d34 d35 j0 j1 j2 j3 j4 W1 W0 c0 c33 c34 c35 k0 k1 k2 k3 k4
      generalize w1.drewN nq = X2 at *
      go_wp2_with (go_at_call 19; refine (CH.out _ W2.out).mono ?_; rintro e w3 ⟨rfl, q3, s3⟩; have W3 := Lib.hid (W2.out.did q3 s3); clear q3 s3; obtain ⟨d0, d33, d34, d35, j0, j1, j2, j3, j4⟩ := W3.out.cells)
      go_region_held3 (fun w' => w'.cell? ⟨b, 0, none⟩ = some (.pointer (some ⟨q, 0, none⟩)) ∧ w'.cell? ⟨b, 34, none⟩ = some (.int .i64 gr)) (first | exact ⟨d0, d34⟩ | exact ⟨l0, l34⟩)
        (first
          | (go_at_call 21; refine (PK2.out _ W3.out.drew).mono ?_; rintro e w4 ⟨rfl, q4, s4⟩; have W4 := Lib.hid (W3.out.drew.did q4 s4); clear q4 s4; obtain ⟨l0, l33, l34, l35, m0, m1, m2, m3, m4⟩ := W4.out.cells))
      go_wp2_with fail
      go_ret2
      exact W4.out.worked _ _
  · rw [if_neg hz, if_neg hz]
    have hcs : chargeS st1 ns = st1 := by unfold chargeS; rw [if_neg hz]
    rw [hcs] at CH
    have hz' : (errCharge st1 ns == 0) = false := by simpa using hz
    generalize errCharge st1 ns = ec at *
    clear hcs PK2 hz
    rcases KW with ⟨rfl, rfl⟩ | hk1
    all_goals
      go_enter Try.func27, Try.ntmps27
      go_wp2_with fail
      generalize w.alloc (.cells #[.int .i64 _, .int .u8 kw, .int .u32 kwt, .int .u32 kn, .bool false] 61) = X0 at *
      generalize w.heap.size = p at *
      go_region_held3 (fun w' => w'.cell? ⟨b, 0, none⟩ = some (.pointer (some ⟨q, 0, none⟩)) ∧ w'.cell? ⟨b, 34, none⟩ = some (.int .i64 gr)) (first | exact ⟨c0, c34⟩ | exact ⟨d0, d34⟩)
        (first
          | (go_at_call 21; refine (PK.out _ W0.out.drew).mono ?_; rintro e w1 ⟨rfl, q1, s1⟩; have W1 := Lib.hid (W0.out.drew.did q1 s1); clear q1 s1; obtain ⟨d0, d33, d34, d35, j0, j1, j2, j3, j4⟩ := W1.out.cells))
      go_wp2_with fail
      go_quiet (fail)
      have W2 := Lib.hid (W1.out.drewN nq)
      obtain ⟨f0, f33, f34, f35, g0, g1, g2, g3, g4⟩ := W2.out.cells
      clear d0 d33 d34 d35 j0 j1 j2 j3 j4 W1 W0 c0 c33 c34 c35 k0 k1 k2 k3 k4
      generalize w1.drewN nq = X2 at *
      go_wp2_with (go_at_call 19; refine (CH.out _ W2.out).mono ?_; rintro e w3 ⟨rfl, q3, s3⟩; have W3 := Lib.hid (W2.out.did q3 s3); clear q3 s3; obtain ⟨d0, d33, d34, d35, j0, j1, j2, j3, j4⟩ := W3.out.cells)
      go_ret2
      exact W3.out.worked _ _
end Go.Proofs.Ytfddefenmlcecaa.Queue

/- What a piece of work does that drops one, or puts one back. Conditions: each number is one of its kind, the queue is sound. -/
namespace Go.Proofs.Ytfddefenmlcecaa.Queue
open Go.ChangeShapes Go.WideShapes Go.ChangeAt Go.RowKit Tree
set_option linter.unusedVariables false
set_option linter.unusedSimpArgs false
set_option maxRecDepth 100000

theorem Wd.fresh {w0 : World} {b q p : Nat} {O : Nat → Prop} {own : List Ent} {cr gr tk : Int} {k : Wk} {st : St} {X Y : World} (h : Wd w0 b q p O own cr gr tk k st X) (g : Below X.heap.size X Y) : Wd w0 b q p O own cr gr tk k st Y :=
  ⟨h.be.fresh g, h.qu.fresh g, (g.block p (h.old p (.inr rfl))).trans h.box, fun j hj => Nat.lt_of_lt_of_le (h.old j hj) g.size, h.same.trans (Same.of g (fun j hj => h.old j (.inl (.inl hj))))⟩
theorem Wd.here {w0 : World} {b q p : Nat} {O : Nat → Prop} {own : List Ent} {cr gr tk : Int} {k : Wk} {st : St} {X : World} (h : Wd w0 b q p O own cr gr tk k st X) (hs : Sound st) (id : Int) :
    Calls Try.prog 66 #[.pointer (some ⟨b, 0, none⟩), .int .i64 id] X (Is (.bool (named st.es id)) X) :=
  heres X b q _ own cr gr tk id st h.be h.qu hs.once (fun e he => by have := hs.each e he; unfold I64; omega) (by have := hs.few; omega)
/-- One of the eight stored. -/
theorem Wd.setOwn {w0 : World} {b q p : Nat} {O : Nat → Prop} {own : List Ent} {cr gr tk : Int} {k : Wk} {st : St} {X : World} (h : Wd w0 b q p O own cr gr tk k st X) (hb : ¬ O b) (hp : p ≠ b) (i : Nat) (hi : i < 8) (e : Ent) :
    Wd w0 b q p O (own.set i e) cr gr tk k st ((((X.setCell ⟨b, 1 + i * 4, none⟩ (.int .i64 e.id)).setCell ⟨b, 1 + i * 4 + 1, none⟩ (.int .u64 e.wt)).setCell ⟨b, 1 + i * 4 + 2, none⟩ (.int .i64 e.v)).setCell ⟨b, 1 + i * 4 + 3, none⟩ (.int .u64 e.rm)) := by
  have ne : ∀ j, O j → j ≠ b := fun j hj e => hb (e ▸ hj)
  refine ⟨h.be.setOwn i hi e, (((h.qu.away (p := ⟨b, _, none⟩) (.inl (.inr rfl)) _).away (p := ⟨b, _, none⟩) (.inl (.inr rfl)) _).away (p := ⟨b, _, none⟩) (.inl (.inr rfl)) _).away (p := ⟨b, _, none⟩) (.inl (.inr rfl)) _, ?_, ?_, ?_⟩
  · rw [Below.heap_setCell _ _ _ _ hp, Below.heap_setCell _ _ _ _ hp, Below.heap_setCell _ _ _ _ hp, Below.heap_setCell _ _ _ _ hp]
    exact h.box
  · intro j hj
    have := h.old j hj
    simpa using this
  · exact h.same.trans ((((Same.setCell (p := ⟨b, _, none⟩) hb _).trans (Same.setCell (p := ⟨b, _, none⟩) hb _)).trans (Same.setCell (p := ⟨b, _, none⟩) hb _)).trans (Same.setCell (p := ⟨b, _, none⟩) hb _))

set_option maxHeartbeats 4000000 in
theorem work_drop (w : World) (b q : Nat) (O : Nat → Prop) (own : List Ent) (cr gr tk : Int) (st : St) (k : Wk) (ws : Bool) (hB : Be w b q own cr gr tk) (hQ : Qu w q (fun j => O j ∨ j = b) st) (hO : ∀ j, O j → j < w.heap.size) (hb : ¬ O b) (hs : Sound st) (hg : I64 gr)
    (h0 : k.kind = 0) (hw : 0 ≤ k.who ∧ k.who ≤ 255) (hh : named st.es k.id = true) :
    Calls Try.prog 27 #[.pointer (some ⟨b, 0, none⟩), .agg k.cells, .bool ws] w (Worked b q O (own.set k.id.toNat (find st.es k.id)) cr gr tk (pickS (dropS st k.id) gr) (-1, 0) w) := by
  have W0 := Lib.hid (Wd.start k hB hQ hO)
  obtain ⟨c0, c33, c34, c35, k0, k1, k2, k3, k4⟩ := W0.out.cells
  have hid : I64 k.id := by unfold I64 Wk.id; omega
  have hpb : w.heap.size ≠ b := by have := hB.lt; omega
  have HR := Lib.hid (fun X (h : Wd w b q w.heap.size O own cr gr tk k st X) => h.here hs k.id)
  have DR := Lib.hid (fun X (h : Wd w b q w.heap.size O own cr gr tk k st X) => dropss X q (fun j => (O j ∨ j = b) ∨ j = w.heap.size) st k.id h.qu h.old hs hid)
  have hs1 := hs.drop (id := k.id)
  have OW := Lib.hid (fun (Y : World) (st' : St) (h : Wd w b q w.heap.size O own cr gr tk k st' Y) i hi => h.setOwn hb hpb i hi (find st.es k.id))
  have PK := Lib.hid (fun X (own' : List Ent) (h : Wd w b q w.heap.size O own' cr gr tk k (dropS st k.id) X) => h.pick hs1 hg)
  obtain ⟨i, hi, hi8⟩ : ∃ i : Nat, k.who % 8 = (i : Int) ∧ i < 8 := ⟨(k.who % 8).toNat, by omega, by omega⟩
  generalize hki : k.id = id at *
  obtain rfl : id = (i : Int) := by rw [← hki]; exact hi
  rw [hh] at HR
  simp only [Int.toNat_natCast]
  generalize errDrop st i = ec at *
  generalize hfe : find st.es i = fe at *
  generalize dropS st i = st1 at *
  clear hB hQ hs hs1 hg hid hh hfe hki hb hpb
  generalize pickS st1 gr = st2 at *
  generalize chosen st1 gr = who at *
  obtain ⟨kk, kw, kwt, kn, ky⟩ := k
  obtain ⟨fi, fw, fv, fr⟩ := fe
  simp only [Wk.cells, Wk.id] at *
  subst h0
  obtain ⟨hw1, hw2⟩ := hw
  go_enter Try.func27, Try.ntmps27
  go_wp2_with fail
  generalize w.alloc (.cells #[.int .i64 0, .int .u8 kw, .int .u32 kwt, .int .u32 kn, .bool ky] 61) = X0 at *
  generalize w.heap.size = p at *
  refine (HR.out _ W0.out).mono ?_
  rintro e w1 ⟨rfl, g1⟩
  have W1 := Lib.hid (W0.out.fresh g1)
  clear g1 HR W0 c0 c33 c34 c35 k0 k1 k2 k3 k4
  obtain ⟨d0, d33, d34, d35, j0, j1, j2, j3, j4⟩ := W1.out.cells
  go_wp2_with fail
  refine (DR.out _ W1.out).mono ?_
  rintro e w2 ⟨rfl, q2, s2⟩
  have W2 := Lib.hid (W1.out.did q2 s2)
  clear q2 s2 DR W1 d0 d33 d34 d35 j0 j1 j2 j3 j4
  try simp only [Ent.val]
  obtain ⟨d0, d33, d34, d35, j0, j1, j2, j3, j4⟩ := W2.out.cells
  go_wp2_with fail
  have X1 := heap_alloc_new w2 (.cells #[.int .i64 fi, .int .u64 fw, .int .i64 fv, .int .u64 fr] 32)
  have W3 := Lib.hid (W2.out.fresh ((Below.refl _ w2).alloc (Nat.le_refl _) (.cells #[.int .i64 fi, .int .u64 fw, .int .i64 fv, .int .u64 fr] 32)))
  clear W2 d0 d33 d34 d35 j0 j1 j2 j3 j4
  generalize w2.alloc (.cells #[.int .i64 fi, .int .u64 fw, .int .i64 fv, .int .u64 fr] 32) = X3 at *
  generalize w2.heap.size = z at *
  have z0 : X3.cell? ⟨z, 0, none⟩ = some (.int .i64 fi) := by rw [cell_of_row X3 z _ _ _ _ X1]; rfl
  have z1 : X3.cell? ⟨z, 1, none⟩ = some (.int .u64 fw) := by rw [cell_of_row X3 z _ _ _ _ X1]; rfl
  have z2 : X3.cell? ⟨z, 2, none⟩ = some (.int .i64 fv) := by rw [cell_of_row X3 z _ _ _ _ X1]; rfl
  have z3 : X3.cell? ⟨z, 3, none⟩ = some (.int .u64 fr) := by rw [cell_of_row X3 z _ _ _ _ X1]; rfl
  obtain ⟨d0, d33, d34, d35, j0, j1, j2, j3, j4⟩ := W3.out.cells
  obtain ⟨eo, ho⟩ : ∃ eo, own[i]? = some eo := ⟨_, List.getElem?_eq_getElem (by have := W3.out.be.len; omega)⟩
  obtain ⟨o0, o1, o2, o3⟩ := W3.out.be.own ho
  obtain ⟨_, _, _, _, fz⟩ := W3.out.be.cells
  clear ho
  have W4 := Lib.hid (OW.out _ _ W3.out i hi8).drew
  go_region
  clear W3 OW X1 z0 z1 z2 z3 d0 d33 d34 d35 j0 j1 j2 j3 j4 o0 o1 o2 o3 fz
  generalize ((((X3.setCell ⟨b, 1 + i * 4, none⟩ (.int .i64 fi)).setCell ⟨b, 1 + i * 4 + 1, none⟩ (.int .u64 fw)).setCell ⟨b, 1 + i * 4 + 2, none⟩ (.int .i64 fv)).setCell ⟨b, 1 + i * 4 + 3, none⟩ (.int .u64 fr)).drew = X4 at *
  generalize own.set i ⟨fi, fw, fv, fr⟩ = own' at *
  obtain ⟨d0, d33, d34, d35, j0, j1, j2, j3, j4⟩ := W4.out.cells
  go_wp2_with fail
  go_region_held3 (fun w' => w'.cell? ⟨b, 0, none⟩ = some (.pointer (some ⟨q, 0, none⟩)) ∧ w'.cell? ⟨b, 34, none⟩ = some (.int .i64 gr)) (first | exact ⟨d0, d34⟩ | exact ⟨l0, l34⟩)
    (first
      | (go_at_call 21; refine (PK.out _ _ W4.out.drew).mono ?_; rintro e w5 ⟨rfl, q5, s5⟩; have W5 := Lib.hid (W4.out.drew.did q5 s5); clear q5 s5; obtain ⟨l0, l33, l34, l35, m0, m1, m2, m3, m4⟩ := W5.out.cells))
  go_wp2_with fail
  go_ret2
  exact W5.out.worked _ _
end Go.Proofs.Ytfddefenmlcecaa.Queue

/- What a piece of work does that puts one back. Conditions: each number is one of its kind, the queue is sound. -/
namespace Go.Proofs.Ytfddefenmlcecaa.Queue
open Go.ChangeShapes Go.WideShapes Go.ChangeAt Go.RowKit Tree
set_option linter.unusedVariables false
set_option linter.unusedSimpArgs false
set_option maxRecDepth 100000

theorem Wd.min {w0 : World} {b q p : Nat} {O : Nat → Prop} {own : List Ent} {cr gr tk : Int} {k : Wk} {st : St} {X : World} (h : Wd w0 b q p O own cr gr tk k st X) :
    Calls Try.prog 29 #[.pointer (some ⟨q, 0, none⟩)] X (Is (.int .i64 st.min) X) := minss X q _ st h.qu
/-- A store into a box of its own. -/
theorem Wd.aside {w0 : World} {b q p : Nat} {O : Nat → Prop} {own : List Ent} {cr gr tk : Int} {k : Wk} {st : St} {X : World} (h : Wd w0 b q p O own cr gr tk k st X) {z : Nat} (hz : ∀ j, (O j ∨ j = b) ∨ j = p → j < z) (hq : Qu X q (fun j => ((O j ∨ j = b) ∨ j = p) ∨ j = z) st) (n : Nat) (v : Value) : Wd w0 b q p O own cr gr tk k st (X.setCell ⟨z, n, none⟩ v) := by
  have nb : b ≠ z := by have := hz b (.inl (.inr rfl)); omega
  have np : p ≠ z := by have := hz p (.inr rfl); omega
  refine ⟨h.be.on (Below.heap_setCell _ _ _ _ nb), (hq.away (p := ⟨z, n, none⟩) (.inr rfl) v).other (fun j hj => .inl (.inl hj)), (Below.heap_setCell _ _ _ _ np).trans h.box, fun j hj => ?_, h.same.trans (Same.setCell (p := ⟨z, n, none⟩) (fun ho => Nat.lt_irrefl _ (hz z (.inl (.inl ho)))) v)⟩
  have := h.old j hj
  simpa using this
set_option maxHeartbeats 8000000 in
theorem work_put (w : World) (b q : Nat) (O : Nat → Prop) (own : List Ent) (cr gr tk : Int) (st : St) (k : Wk) (ws : Bool) (eo : Ent) (hB : Be w b q own cr gr tk) (hQ : Qu w q (fun j => O j ∨ j = b) st) (hO : ∀ j, O j → j < w.heap.size) (hs : Sound st) (hg : I64 gr) (hc : I64 cr)
    (h0 : k.kind = 0) (hw : 0 ≤ k.who ∧ k.who ≤ 255) (hh : named st.es k.id = false) (he : own[k.id.toNat]? = some eo) (h1 : I64 eo.id) (h2 : 0 ≤ eo.wt) (h3 : 0 ≤ eo.rm) (hs1 : Sound (putS st { eo with v := Renorm.wake eo.v st.min cr })) :
    Calls Try.prog 27 #[.pointer (some ⟨b, 0, none⟩), .agg k.cells, .bool ws] w (Worked b q O own cr gr tk (pickS (putS st { eo with v := Renorm.wake eo.v st.min cr }) gr) (-1, 0) w) := by
  have W0 := Lib.hid (Wd.start k hB hQ hO)
  obtain ⟨c0, c33, c34, c35, k0, k1, k2, k3, k4⟩ := W0.out.cells
  have hid : I64 k.id := by unfold I64 Wk.id; omega
  have HR := Lib.hid (fun X (h : Wd w b q w.heap.size O own cr gr tk k st X) => h.here hs k.id)
  have MN := Lib.hid (fun X (h : Wd w b q w.heap.size O own cr gr tk k st X) => h.min)
  have WK := Lib.hid (fun X => Renorm.wakes eo.v st.min cr X hs.min hc)
  have PT := Lib.hid (fun X z (hq : Qu X q (fun j => ((O j ∨ j = b) ∨ j = w.heap.size) ∨ j = z) st) (ho : ∀ j, ((O j ∨ j = b) ∨ j = w.heap.size) ∨ j = z → j < X.heap.size) => puts X q _ st { eo with v := Renorm.wake eo.v st.min cr } hq ho h1 h2 h3 (by have := hs.few; omega))
  have PK := Lib.hid (fun X (h : Wd w b q w.heap.size O own cr gr tk k (putS st { eo with v := Renorm.wake eo.v st.min cr }) X) => h.pick hs1 hg)
  obtain ⟨i, hi, hi8⟩ : ∃ i : Nat, k.who % 8 = (i : Int) ∧ i < 8 := ⟨(k.who % 8).toNat, by omega, by omega⟩
  generalize hki : k.id = id at *
  obtain rfl : id = (i : Int) := by rw [← hki]; exact hi
  rw [hh] at HR
  simp only [Int.toNat_natCast] at he
  have HE := Lib.hid he
  clear hB hQ hs hs1 hg hc hid hh hki he h1 h2 h3
  obtain ⟨fi, fw, fv, fr⟩ := eo
  simp only at *
  generalize st.min = mn at *
  generalize Renorm.wake fv mn cr = nv at *
  generalize errPut st.es ⟨fi, fw, nv, fr⟩ = ec at *
  generalize putS st ⟨fi, fw, nv, fr⟩ = st1 at *
  generalize pickS st1 gr = st2 at *
  generalize chosen st1 gr = who at *
  obtain ⟨kk, kw, kwt, kn, ky⟩ := k
  simp only [Wk.cells, Wk.id, Ent.val] at *
  subst h0
  obtain ⟨hw1, hw2⟩ := hw
  go_enter Try.func27, Try.ntmps27
  go_wp2_with fail
  generalize w.alloc (.cells #[.int .i64 0, .int .u8 kw, .int .u32 kwt, .int .u32 kn, .bool ky] 61) = X0 at *
  generalize w.heap.size = p at *
  refine (HR.out _ W0.out).mono ?_
  rintro e w1 ⟨rfl, g1⟩
  have W1 := Lib.hid (W0.out.fresh g1)
  clear g1 HR W0 c0 c33 c34 c35 k0 k1 k2 k3 k4
  obtain ⟨d0, d33, d34, d35, j0, j1, j2, j3, j4⟩ := W1.out.cells
  obtain ⟨o0, o1, o2, o3⟩ := W1.out.be.own HE.out
  go_wp2_with fail
  have X1 := heap_alloc_new w1 (.cells #[.int .i64 fi, .int .u64 fw, .int .i64 fv, .int .u64 fr] 32)
  have W3 := Lib.hid (W1.out.fresh ((Below.refl _ w1).alloc (Nat.le_refl _) (.cells #[.int .i64 fi, .int .u64 fw, .int .i64 fv, .int .u64 fr] 32)))
  have OZ := Lib.hid (fun j (hj : (O j ∨ j = b) ∨ j = p) => W1.out.old j hj)
  have Q3 := Lib.hid ((W1.out.qu.other (O' := fun j => ((O j ∨ j = b) ∨ j = p) ∨ j = w1.heap.size) (fun j hj => hj.imp (fun h => h) (fun e => Nat.le_of_eq e.symm))).fresh ((Below.refl _ w1).alloc (Nat.le_refl _) (.cells #[.int .i64 fi, .int .u64 fw, .int .i64 fv, .int .u64 fr] 32)))
  clear W1 d0 d33 d34 d35 j0 j1 j2 j3 j4 o0 o1 o2 o3 HE
  generalize w1.alloc (.cells #[.int .i64 fi, .int .u64 fw, .int .i64 fv, .int .u64 fr] 32) = X3 at *
  generalize w1.heap.size = z at *
  have z2 : X3.cell? ⟨z, 2, none⟩ = some (.int .i64 fv) := by rw [cell_of_row X3 z _ _ _ _ X1]; rfl
  have zf : X3.frozen? ⟨z, 2, none⟩ = false := frozen_of_row X3 z 2 _ _ X1
  have hz := lt_of X1
  obtain ⟨d0, d33, d34, d35, j0, j1, j2, j3, j4⟩ := W3.out.cells
  clear d34 d35 j0 j1 j2 j3 j4
  go_region_with (first
      | (go_at_call 29; refine (MN.out _ W3.out.drew).mono ?_; rintro e w5 ⟨rfl, g5⟩; have W5 := Lib.hid (W3.out.drew.fresh g5); have Q5 := Lib.hid ((Q3.out.fresh ((Below.refl _ X3).drew)).fresh g5); have X5 := (g5.block z hz).trans X1; have y2 : w5.cell? ⟨z, 2, none⟩ = some (.int .i64 fv) := (by rw [cell_of_row w5 z _ _ _ _ X5]; rfl); have yf : w5.frozen? ⟨z, 2, none⟩ = false := frozen_of_row w5 z 2 _ _ X5; clear g5 W3 Q3; obtain ⟨l0, l33, _⟩ := W5.out.cells)
      | (go_at_call 32; refine (WK.out _).mono ?_; rintro e w6 ⟨rfl, g6⟩; have W6 := Lib.hid (W5.out.fresh g6); have Q6 := Lib.hid (Q5.out.fresh g6); have X6 := (g6.block z (lt_of X5)).trans X5; have uf : w6.frozen? ⟨z, 2, none⟩ = false := frozen_of_row w6 z 2 _ _ X6; have u2 : w6.cell? ⟨z, 2, none⟩ = some (.int .i64 fv) := (by rw [cell_of_row w6 z _ _ _ _ X6]; rfl); clear g6 W5 Q5))
  all_goals
    clear X1 X5 z2 zf y2 yf u2 uf d0 d33 l0 l33 hz
    have W7 := Lib.hid (W6.out.aside OZ.out Q6.out 2 (.int .i64 nv))
    have Q7 := Lib.hid (Q6.out.away (p := ⟨z, 2, none⟩) (.inr rfl) (.int .i64 nv))
    have X7 := heap_setCell_same w6 z 2 _ _ (.int .i64 nv) X6
    clear W6 Q6 X6
    generalize w6.setCell ⟨z, 2, none⟩ (.int .i64 nv) = Y7 at *
    have z0 : Y7.cell? ⟨z, 0, none⟩ = some (.int .i64 fi) := by rw [cell_of_row Y7 z _ _ _ _ X7]; rfl
    have z1 : Y7.cell? ⟨z, 1, none⟩ = some (.int .u64 fw) := by rw [cell_of_row Y7 z _ _ _ _ X7]; rfl
    have z2 : Y7.cell? ⟨z, 2, none⟩ = some (.int .i64 nv) := by rw [cell_of_row Y7 z _ _ _ _ X7]; rfl
    have z3 : Y7.cell? ⟨z, 3, none⟩ = some (.int .u64 fr) := by rw [cell_of_row Y7 z _ _ _ _ X7]; rfl
    obtain ⟨d0, d33, d34, d35, j0, j1, j2, j3, j4⟩ := W7.out.cells
    have OLD : Hid (∀ j, ((O j ∨ j = b) ∨ j = p) ∨ j = z → j < Y7.drew.heap.size) := Lib.hid (fun j hj => hj.elim (fun h => W7.out.drew.old j h) (fun e => e ▸ lt_of X7))
    go_wp2_with fail
    go_region_held3 (fun w' => w'.cell? ⟨b, 0, none⟩ = some (.pointer (some ⟨q, 0, none⟩)) ∧ w'.cell? ⟨z, 0, none⟩ = some (.int .i64 fi) ∧ w'.cell? ⟨z, 1, none⟩ = some (.int .u64 fw) ∧ w'.cell? ⟨z, 2, none⟩ = some (.int .i64 nv) ∧ w'.cell? ⟨z, 3, none⟩ = some (.int .u64 fr)) (first | exact ⟨d0, z0, z1, z2, z3⟩ | exact ⟨l0, y0, y1, y2, y3⟩)
      (first
        | (go_at_call 13; refine (PT.out _ z (Q7.out.fresh ((Below.refl _ Y7).drew)) OLD.out).mono ?_; rintro e w8 ⟨rfl, q8, s8⟩; have W8 := Lib.hid (W7.out.drew.did (q8.other (fun j hj => .inl (.inl hj))) (s8.mono (fun j hj => .inl hj))); have X8 := (s8.block z (.inr rfl)).trans X7; clear q8 s8; have y0 : w8.cell? ⟨z, 0, none⟩ = some (.int .i64 fi) := (by rw [cell_of_row w8 z _ _ _ _ X8]; rfl); have y1 : w8.cell? ⟨z, 1, none⟩ = some (.int .u64 fw) := (by rw [cell_of_row w8 z _ _ _ _ X8]; rfl); have y2 : w8.cell? ⟨z, 2, none⟩ = some (.int .i64 nv) := (by rw [cell_of_row w8 z _ _ _ _ X8]; rfl); have y3 : w8.cell? ⟨z, 3, none⟩ = some (.int .u64 fr) := (by rw [cell_of_row w8 z _ _ _ _ X8]; rfl); obtain ⟨l0, l33, l34, l35, m0, m1, m2, m3, m4⟩ := W8.out.cells))
    clear W7 Q7 X7 z0 z1 z2 z3 d0 d33 d34 d35 j0 j1 j2 j3 j4 OLD
    go_wp2_with fail
    go_region_held3 (fun w' => w'.cell? ⟨b, 0, none⟩ = some (.pointer (some ⟨q, 0, none⟩)) ∧ w'.cell? ⟨b, 34, none⟩ = some (.int .i64 gr)) (first | exact ⟨l0, l34⟩ | exact ⟨t0, t34⟩)
      (first
        | (go_at_call 21; refine (PK.out _ W8.out.drew).mono ?_; rintro e w9 ⟨rfl, q9, s9⟩; have W9 := Lib.hid (W8.out.drew.did q9 s9); clear q9 s9; obtain ⟨t0, t33, t34, _⟩ := W9.out.cells))
    go_wp2_with fail
    go_ret2
    exact W9.out.worked _ _
end Go.Proofs.Ytfddefenmlcecaa.Queue

/- What a piece of work does that weighs. Conditions: each number is one of its kind, the queue is sound. -/
namespace Go.Proofs.Ytfddefenmlcecaa.Queue
open Go.ChangeShapes Go.WideShapes Go.ChangeAt Go.RowKit Tree
set_option linter.unusedVariables false
set_option linter.unusedSimpArgs false
set_option maxRecDepth 100000

theorem heavies (x : Int) (w : World) (h1 : 0 ≤ x) (h2 : x ≤ 4294967295) : Calls Try.prog 33 #[.int .u32 x] w (Still (.int .u64 (heavyOf x)) w) := by
  unfold heavyOf
  go_enter Try.func33, Try.ntmps33
  go_wp2
  go_ret
  exact ⟨rfl, rfl⟩
theorem Sound.weigh {st : St} (h : Sound st) (id x : Int) (hx : 0 ≤ x) : Sound (weighS st id x) := by
  unfold weighS
  split
  · rename_i hz
    apply Sound.rise
    have hnm : named st.es id = true := by
      unfold errWeigh at hz
      cases hh : named st.es id
      · rw [hh] at hz; simp at hz
      · rfl
    have hce : Vrun.cerr x 0 0 = 0 := by unfold errWeigh at hz; rw [hnm] at hz; simpa using hz
    have hxb := cerr_zero hce
    obtain ⟨f1, f2⟩ := find_of hnm
    have he := h.each _ f1
    have hp := setE_perm h.once (e := weighed (find st.es id) x) (by show named st.es (find st.es id).id = true; rw [f2]; exact hnm)
    have hq : 0 ≤ Wide.quo (find st.es id).rm x (find st.es id).wt ∧ Wide.quo (find st.es id).rm x (find st.es id).wt < x := by
      unfold Wide.quo
      have hlt : (find st.es id).rm * x / (find st.es id).wt < x := by
        apply Int.ediv_lt_of_lt_mul (by omega)
        rw [Int.mul_comm x]
        exact Int.mul_lt_mul_of_pos_right he.2.2.2.2.2.1 (by omega)
      have h0 : 0 ≤ (find st.es id).rm * x / (find st.es id).wt := Int.ediv_nonneg (Int.mul_nonneg (by omega) (by omega)) (by omega)
      rw [if_pos ⟨by omega, by omega⟩]
      exact ⟨h0, hlt⟩
    refine ⟨?_, ?_, ?_, h.cur, h.min⟩
    · show Once (setE (weighed (find st.es id) x) st.es)
      refine once_perm hp ?_
      unfold Once
      rw [List.pairwise_cons]
      refine ⟨fun d hd => ?_, once_drop h.once _⟩
      have := (mem_drop.1 hd).2
      exact fun e => this e.symm
    · intro e he'
      have he2 : e ∈ setE (weighed (find st.es id) x) st.es := he'
      rw [← hp.mem_iff] at he2
      rcases List.mem_cons.1 he2 with rfl | hd
      · have hb : I64 (find st.es id).v := he.2.2.2.2.2.2
        exact ⟨he.1, he.2.1, by show 2 ≤ x; omega, by show x ≤ 262144; omega, hq.1, hq.2, hb⟩
      · exact h.each e (mem_drop.1 hd).1
    · show (setE (weighed (find st.es id) x) st.es).length ≤ 128
      unfold setE
      rw [List.length_map]
      exact h.few
  · exact h

set_option maxHeartbeats 8000000 in
theorem work_weigh (w : World) (b q : Nat) (O : Nat → Prop) (own : List Ent) (cr gr tk : Int) (st : St) (k : Wk) (hB : Be w b q own cr gr tk) (hQ : Qu w q (fun j => O j ∨ j = b) st) (hO : ∀ j, O j → j < w.heap.size) (hs : Sound st) (hg : I64 gr)
    (h1 : k.kind = 1) (hw : 0 ≤ k.who ∧ k.who ≤ 255) (hn : 0 ≤ k.weight ∧ k.weight ≤ 4294967295) :
    Calls Try.prog 27 #[.pointer (some ⟨b, 0, none⟩), .agg k.cells, .bool true] w (Worked b q O own cr gr tk (workB ⟨st, own⟩ cr gr tk true k).st (workA ⟨st, own⟩ cr gr tk true k) w) := by
  have W0 := Lib.hid (Wd.start k hB hQ hO)
  obtain ⟨c0, c33, c34, c35, k0, k1, k2, k3, k4⟩ := W0.out.cells
  have hid : I64 k.id := by unfold I64 Wk.id; omega
  have hhv : 0 ≤ heavyOf k.weight := by unfold heavyOf; omega
  have HV := Lib.hid (fun w => heavies k.weight w hn.1 hn.2)
  have WG := Lib.hid (fun X (h : Wd w b q w.heap.size O own cr gr tk k st X) => weighs X q (fun j => (O j ∨ j = b) ∨ j = w.heap.size) st k.id (heavyOf k.weight) h.qu h.old hs hid hhv)
  have hs1 := hs.weigh k.id (heavyOf k.weight) hhv
  have PK := Lib.hid (fun X (h : Wd w b q w.heap.size O own cr gr tk k (weighS st k.id (heavyOf k.weight)) X) => h.pick hs1 hg)
  have eB : (workB ⟨st, own⟩ cr gr tk true k).st = pickS (weighS st k.id (heavyOf k.weight)) gr := by
    unfold workB
    rw [if_neg (by omega), if_pos ⟨h1, rfl⟩]
  have eA : workA ⟨st, own⟩ cr gr tk true k = (-1, 0) := by
    unfold workA
    rw [if_neg (by omega), if_pos ⟨h1, rfl⟩]
  rw [eB, eA]
  clear eB eA hB hQ hs hs1 hg hhv hid
  generalize errWeigh st k.id (heavyOf k.weight) = ec at *
  generalize weighS st k.id (heavyOf k.weight) = st1 at *
  generalize pickS st1 gr = st2 at *
  generalize chosen st1 gr = who at *
  generalize heavyOf k.weight = hv at *
  obtain ⟨kk, kw, kwt, kn, ky⟩ := k
  simp only [Wk.cells, Wk.id] at *
  subst h1
  obtain ⟨hw1, hw2⟩ := hw
  go_enter Try.func27, Try.ntmps27
  go_wp2_with fail
  generalize w.alloc (.cells #[.int .i64 1, .int .u8 kw, .int .u32 kwt, .int .u32 kn, .bool ky] 61) = X0 at *
  generalize w.heap.size = p at *
  go_region_held3 (fun w' => w'.cell? ⟨b, 0, none⟩ = some (.pointer (some ⟨q, 0, none⟩)) ∧ w'.cell? ⟨p, 2, none⟩ = some (.int .u32 kwt)) (first | exact ⟨c0, k2⟩ | exact ⟨d0, j2⟩)
    (first
      | (go_at_call 33; refine (HV.out _).mono ?_; rintro e w9 ⟨rfl, hw⟩; subst hw)
      | (go_at_call 17; refine (WG.out _ W0.out.drew).mono ?_; rintro e w1 ⟨rfl, q1, s1⟩; have W1 := Lib.hid (W0.out.drew.did q1 s1); clear q1 s1; obtain ⟨d0, d33, d34, d35, j0, j1, j2, j3, j4⟩ := W1.out.cells))
  clear c0 c33 c34 c35 k0 k1 k2 k3 k4 W0
  go_wp2_with fail
  go_region_held3 (fun w' => w'.cell? ⟨b, 0, none⟩ = some (.pointer (some ⟨q, 0, none⟩)) ∧ w'.cell? ⟨b, 34, none⟩ = some (.int .i64 gr)) (first | exact ⟨d0, d34⟩ | exact ⟨l0, l34⟩)
    (first
      | (go_at_call 21; refine (PK.out _ W1.out.drew).mono ?_; rintro e w4 ⟨rfl, q4, s4⟩; have W4 := Lib.hid (W1.out.drew.did q4 s4); clear q4 s4; obtain ⟨l0, l33, l34, l35, m0, m1, m2, m3, m4⟩ := W4.out.cells))
  go_wp2_with fail
  go_ret2
  exact W4.out.worked _ _
end Go.Proofs.Ytfddefenmlcecaa.Queue

/- What a piece of work does that yields, and serves. Conditions: each number is one of its kind, the queue is sound. -/
namespace Go.Proofs.Ytfddefenmlcecaa.Queue
open Go.ChangeShapes Go.WideShapes Go.ChangeAt Go.RowKit Tree
set_option linter.unusedVariables false
set_option linter.unusedSimpArgs false
set_option maxRecDepth 100000

set_option maxHeartbeats 8000000 in
theorem work_yield (w : World) (b q : Nat) (O : Nat → Prop) (own : List Ent) (cr gr tk : Int) (st : St) (k : Wk) (ws : Bool) (hB : Be w b q own cr gr tk) (hQ : Qu w q (fun j => O j ∨ j = b) st) (hO : ∀ j, O j → j < w.heap.size) (hs : Sound st) (hg : I64 gr)
    (h0 : (k.kind == 0) = false) (h1 : ¬ (k.kind = 1 ∧ ws = true)) (hw : 0 ≤ k.who ∧ k.who ≤ 255) (hn : 0 ≤ k.ns ∧ k.ns ≤ 4294967295) (ht : 1 ≤ tk ∧ tk ≤ 65536) (hy : k.yields = true) :
    Calls Try.prog 27 #[.pointer (some ⟨b, 0, none⟩), .agg k.cells, .bool ws] w (Worked b q O own cr gr tk (workB ⟨st, own⟩ cr gr tk ws k).st (workA ⟨st, own⟩ cr gr tk ws k) w) := by
  have W0 := Lib.hid (Wd.start k hB hQ hO)
  obtain ⟨c0, c33, c34, c35, k0, k1, k2, k3, k4⟩ := W0.out.cells
  rw [hy] at k4
  have PK := Lib.hid (fun X (h : Wd w b q w.heap.size O own cr gr tk k st X) => h.pick hs hg)
  have YL := Lib.hid (fun X (h : Wd w b q w.heap.size O own cr gr tk k (pickS st gr) X) => h.yield (hs.pick gr) hg)
  have hk0 : k.kind ≠ 0 := by simpa using h0
  have eB : (workB ⟨st, own⟩ cr gr tk ws k).st = if errCharge (yieldS (pickS st gr) gr) (k.ns % (tk + 1)) = 0 then pickS (chargeS (yieldS (pickS st gr) gr) (k.ns % (tk + 1))) gr else yieldS (pickS st gr) gr := by
    unfold workB runS
    rw [if_neg hk0, if_neg h1, hy]
    simp only [if_true]
    split <;> rfl
  have eA : workA ⟨st, own⟩ cr gr tk ws k = if errCharge (yieldS (pickS st gr) gr) (k.ns % (tk + 1)) = 0 then (yielded (pickS st gr) gr, k.ns % (tk + 1)) else (-1, 0) := by
    unfold workA runS
    rw [if_neg hk0, if_neg h1, hy]
    simp only [if_true]
    rfl
  rw [eB, eA]
  have hns : 0 ≤ k.ns % (tk + 1) := Int.emod_nonneg _ (by omega)
  have hs1 : Sound (yieldS (pickS st gr) gr) := hs.run gr true
  have CH := Lib.hid (fun X (h : Wd w b q w.heap.size O own cr gr tk k (yieldS (pickS st gr) gr) X) => h.charge hs1 hns)
  have PK2 := Lib.hid (fun X (h : Wd w b q w.heap.size O own cr gr tk k (chargeS (yieldS (pickS st gr) gr) (k.ns % (tk + 1))) X) => h.pick (hs1.charge hns) hg)
  have KW : k.kind = 1 ∧ ws = false ∨ (k.kind == 1) = false := by
    by_cases h : k.kind = 1
    · exact .inl ⟨h, by cases ws <;> simp_all⟩
    · exact .inr (by simpa using h)
  clear eB eA hB hQ hk0 h1 hs hs1 hg hns
  generalize yieldS (pickS st gr) gr = st1 at *
  generalize yielded (pickS st gr) gr = who at *
  generalize pickS st gr = st0 at *
  generalize chosen st gr = who0 at *
  obtain ⟨kk, kw, kwt, kn, ky⟩ := k
  simp only at *
  subst hy
  obtain ⟨hw1, hw2⟩ := hw
  obtain ⟨hn1, hn2⟩ := hn
  obtain ⟨ht1, ht2⟩ := ht
  generalize hnse : kn % (tk + 1) = ns at *
  simp only [Wk.cells] at *
  have hwr : IntKind.u64.wrap (tk + 1) = tk + 1 := by rw [IntKind.wrap_u64]; omega
  have htz : ((tk + 1 : Int) == 0) = false := by simp; omega
  by_cases hz : errCharge st1 ns = 0
  · rw [if_pos hz, if_pos hz]
    rw [hz] at CH
    generalize chargeS st1 ns = st2 at *
    generalize pickS st2 gr = st3 at *
    rcases KW with ⟨rfl, rfl⟩ | hk1
    all_goals
      go_enter Try.func27, Try.ntmps27
      go_wp2_with fail
      generalize w.alloc (.cells #[.int .i64 _, .int .u8 kw, .int .u32 kwt, .int .u32 kn, .bool true] 61) = X0 at *
      generalize w.heap.size = p at *
      go_region_held3 (fun w' => w'.cell? ⟨b, 0, none⟩ = some (.pointer (some ⟨q, 0, none⟩)) ∧ w'.cell? ⟨b, 34, none⟩ = some (.int .i64 gr)) (first | exact ⟨c0, c34⟩ | exact ⟨d0, d34⟩)
        (first
          | (go_at_call 21; refine (PK.out _ W0.out.drew).mono ?_; rintro e w1 ⟨rfl, q1, s1⟩; have W1 := Lib.hid (W0.out.drew.did q1 s1); clear q1 s1; obtain ⟨d0, d33, d34, d35, j0, j1, j2, j3, j4⟩ := W1.out.cells))
      go_wp2_with fail
      clear c0 c33 c34 c35 k0 k1 k2 k3 k4 W0
      go_region_held3 (fun w' => w'.cell? ⟨b, 0, none⟩ = some (.pointer (some ⟨q, 0, none⟩)) ∧ w'.cell? ⟨b, 34, none⟩ = some (.int .i64 gr)) (first | exact ⟨d0, d34⟩ | exact ⟨n0, n34⟩)
        (first
          | (go_at_call 23; refine (YL.out _ W1.out.drew).mono ?_; rintro e w9 ⟨rfl, q9, s9⟩; have W9 := Lib.hid (W1.out.drew.did q9 s9); clear q9 s9; obtain ⟨n0, n33, n34, n35, o0, o1, o2, o3, o4⟩ := W9.out.cells))
      clear d0 d33 d34 d35 j0 j1 j2 j3 j4 W1
      go_wp2_with fail
      go_quiet (fail)
      have W2 := Lib.hid (W9.out.drewN nq)
      obtain ⟨f0, f33, f34, f35, g0, g1, g2, g3, g4⟩ := W2.out.cells
      clear n0 n33 n34 n35 o0 o1 o2 o3 o4 W9
      generalize w9.drewN nq = X2 at *
      go_wp2_with (go_at_call 19; refine (CH.out _ W2.out).mono ?_; rintro e w3 ⟨rfl, q3, s3⟩; have W3 := Lib.hid (W2.out.did q3 s3); clear q3 s3; obtain ⟨d0, d33, d34, d35, j0, j1, j2, j3, j4⟩ := W3.out.cells)
      go_region_held3 (fun w' => w'.cell? ⟨b, 0, none⟩ = some (.pointer (some ⟨q, 0, none⟩)) ∧ w'.cell? ⟨b, 34, none⟩ = some (.int .i64 gr)) (first | exact ⟨d0, d34⟩ | exact ⟨l0, l34⟩)
        (first
          | (go_at_call 21; refine (PK2.out _ W3.out.drew).mono ?_; rintro e w4 ⟨rfl, q4, s4⟩; have W4 := Lib.hid (W3.out.drew.did q4 s4); clear q4 s4; obtain ⟨l0, l33, l34, l35, m0, m1, m2, m3, m4⟩ := W4.out.cells))
      go_wp2_with fail
      go_ret2
      exact W4.out.worked _ _
  · rw [if_neg hz, if_neg hz]
    have hcs : chargeS st1 ns = st1 := by unfold chargeS; rw [if_neg hz]
    rw [hcs] at CH
    have hz' : (errCharge st1 ns == 0) = false := by simpa using hz
    generalize errCharge st1 ns = ec at *
    clear hcs PK2 hz
    rcases KW with ⟨rfl, rfl⟩ | hk1
    all_goals
      go_enter Try.func27, Try.ntmps27
      go_wp2_with fail
      generalize w.alloc (.cells #[.int .i64 _, .int .u8 kw, .int .u32 kwt, .int .u32 kn, .bool true] 61) = X0 at *
      generalize w.heap.size = p at *
      go_region_held3 (fun w' => w'.cell? ⟨b, 0, none⟩ = some (.pointer (some ⟨q, 0, none⟩)) ∧ w'.cell? ⟨b, 34, none⟩ = some (.int .i64 gr)) (first | exact ⟨c0, c34⟩ | exact ⟨d0, d34⟩)
        (first
          | (go_at_call 21; refine (PK.out _ W0.out.drew).mono ?_; rintro e w1 ⟨rfl, q1, s1⟩; have W1 := Lib.hid (W0.out.drew.did q1 s1); clear q1 s1; obtain ⟨d0, d33, d34, d35, j0, j1, j2, j3, j4⟩ := W1.out.cells))
      go_wp2_with fail
      clear c0 c33 c34 c35 k0 k1 k2 k3 k4 W0
      go_region_held3 (fun w' => w'.cell? ⟨b, 0, none⟩ = some (.pointer (some ⟨q, 0, none⟩)) ∧ w'.cell? ⟨b, 34, none⟩ = some (.int .i64 gr)) (first | exact ⟨d0, d34⟩ | exact ⟨n0, n34⟩)
        (first
          | (go_at_call 23; refine (YL.out _ W1.out.drew).mono ?_; rintro e w9 ⟨rfl, q9, s9⟩; have W9 := Lib.hid (W1.out.drew.did q9 s9); clear q9 s9; obtain ⟨n0, n33, n34, n35, o0, o1, o2, o3, o4⟩ := W9.out.cells))
      clear d0 d33 d34 d35 j0 j1 j2 j3 j4 W1
      go_wp2_with fail
      go_quiet (fail)
      have W2 := Lib.hid (W9.out.drewN nq)
      obtain ⟨f0, f33, f34, f35, g0, g1, g2, g3, g4⟩ := W2.out.cells
      clear n0 n33 n34 n35 o0 o1 o2 o3 o4 W9
      generalize w9.drewN nq = X2 at *
      go_wp2_with (go_at_call 19; refine (CH.out _ W2.out).mono ?_; rintro e w3 ⟨rfl, q3, s3⟩; have W3 := Lib.hid (W2.out.did q3 s3); clear q3 s3; obtain ⟨d0, d33, d34, d35, j0, j1, j2, j3, j4⟩ := W3.out.cells)
      go_ret2
      exact W3.out.worked _ _
end Go.Proofs.Ytfddefenmlcecaa.Queue

/- What a piece of work does. Conditions: each number is one of its kind, the bench is sound. -/
namespace Go.Proofs.Ytfddefenmlcecaa.Queue
open Go.ChangeShapes Go.WideShapes Go.ChangeAt Go.RowKit Tree
set_option linter.unusedVariables false
set_option linter.unusedSimpArgs false

/-- A piece of work whose numbers are of their kinds. -/
structure Wk.Ok (k : Wk) : Prop where
  who : 0 ≤ k.who ∧ k.who ≤ 255
  weight : 0 ≤ k.weight ∧ k.weight ≤ 4294967295
  ns : 0 ≤ k.ns ∧ k.ns ≤ 4294967295
theorem i64_wake {o m c : Int} (h : I64 o) : I64 (Renorm.wake o m c) := by
  unfold Renorm.wake Fix.ends
  unfold I64 at *
  omega
theorem work (w : World) (b q : Nat) (O : Nat → Prop) (n : Bn) (cr gr tk : Int) (k : Wk) (ws : Bool) (hB : Be w b q n.own cr gr tk) (hQ : Qu w q (fun j => O j ∨ j = b) n.st) (hO : ∀ j, O j → j < w.heap.size) (hb : ¬ O b) (G : Good n cr gr tk) (hg : I64 gr) (hc : I64 cr) (ht : 1 ≤ tk ∧ tk ≤ 65536) (hk : k.Ok) :
    Calls Try.prog 27 #[.pointer (some ⟨b, 0, none⟩), .agg k.cells, .bool ws] w (Worked b q O (workB n cr gr tk ws k).own cr gr tk (workB n cr gr tk ws k).st (workA n cr gr tk ws k) w) := by
  obtain ⟨st, own⟩ := n
  have hs := G.sound
  by_cases h0 : k.kind = 0
  · have eA : workA ⟨st, own⟩ cr gr tk ws k = (-1, 0) := by unfold workA; rw [if_pos h0]
    cases hh : named st.es k.id with
    | true =>
      have eB : workB ⟨st, own⟩ cr gr tk ws k = ⟨pickS (dropS st k.id) gr, own.set k.id.toNat (find st.es k.id)⟩ := by unfold workB; rw [if_pos h0, if_pos hh]
      rw [eA, eB]
      exact work_drop w b q O own cr gr tk st k ws hB hQ hO hb hs hg h0 hk.who hh
    | false =>
      have hw := hk.who
      obtain ⟨eo, ho⟩ : ∃ eo, own[k.id.toNat]? = some eo := ⟨_, List.getElem?_eq_getElem (by have : own.length = 8 := G.len; unfold Wk.id; omega)⟩
      obtain ⟨g1, g2, g3, g4, g5, g6⟩ := G.own _ _ ho
      have eB : workB ⟨st, own⟩ cr gr tk ws k = ⟨pickS (putS st { eo with v := Renorm.wake eo.v st.min cr }) gr, own⟩ := by
        unfold workB
        rw [if_pos h0, if_neg (by rw [hh]; simp), ho]
        rfl
      have hid : I64 eo.id := by rw [g1]; unfold I64 Wk.id; omega
      rw [eA, eB]
      exact work_put w b q O own cr gr tk st k ws eo hB hQ hO hs hg hc h0 hk.who hh ho hid (by omega) g4 (hs.put (e := { eo with v := Renorm.wake eo.v st.min cr }) hid (i64_wake g6) g4)
  · by_cases h1 : k.kind = 1 ∧ ws = true
    · have eO : (workB ⟨st, own⟩ cr gr tk ws k).own = own := by unfold workB; rw [if_neg h0, if_pos h1]
      rw [eO]
      obtain ⟨h1, rfl⟩ := h1
      exact work_weigh w b q O own cr gr tk st k hB hQ hO hs hg h1 hk.who hk.weight
    · have eO : (workB ⟨st, own⟩ cr gr tk ws k).own = own := by
        unfold workB
        rw [if_neg h0, if_neg h1]
        split <;> rfl
      rw [eO]
      cases hy : k.yields with
      | false => exact work_run w b q O own cr gr tk st k ws hB hQ hO hs hg (by simpa using h0) h1 hk.who hk.ns ht hy
      | true => exact work_yield w b q O own cr gr tk st k ws hB hQ hO hs hg (by simpa using h0) h1 hk.who hk.ns ht hy
end Go.Proofs.Ytfddefenmlcecaa.Queue

/- All vruntimes of a bench lie near its least one, whatever work is done on it. Conditions: as each fact states them. -/
namespace Go.Proofs.Ytfddefenmlcecaa.Queue
open Tree
set_option linter.unusedVariables false
set_option linter.unusedSimpArgs false

/-- Entities in order, near m. -/
structure Lie (es : List Ent) (m cr gr M : Int) : Prop where
  sorted : Sorted (es.map Ent.key)
  low : ∀ e ∈ es, m - cr ≤ e.v
  high : ∀ e ∈ es, e.v ≤ m + gr + M
theorem key_le {a b : Ent} (h : lt a.key b.key) : a.v ≤ b.v := by
  unfold lt Ent.key at h; simp only at h; omega
theorem head_le {e : Ent} {l : List Ent} (h : Sorted ((e :: l).map Ent.key)) : ∀ x ∈ e :: l, e.v ≤ x.v := by
  intro x hx
  rcases List.mem_cons.1 hx with rfl | hx
  · exact Int.le_refl _
  · have := (List.pairwise_cons.1 h).1 x.key (List.mem_map.2 ⟨x, hx, rfl⟩)
    exact key_le this
theorem Lie.drop {es : List Ent} {m cr gr M : Int} (h : Lie es m cr gr M) (id : Int) : Lie (drop es id) m cr gr M := by
  refine ⟨?_, fun e he => h.low e (mem_drop.1 he).1, fun e he => h.high e (mem_drop.1 he).1⟩
  have : (Queue.drop es id).map Ent.key |>.Sublist (es.map Ent.key) := (List.filter_sublist).map _
  exact h.sorted.sublist this
theorem key_mem {es : List Ent} {e : Ent} (h : named es e.id = false) : e.key ∉ es.map Ent.key := fun hm => by
  rw [key_named hm] at h; cases h
theorem Lie.ins {es : List Ent} {m cr gr M : Int} (h : Lie es m cr gr M) {e : Ent} (hn : named es e.id = false) (h1 : m - cr ≤ e.v) (h2 : e.v ≤ m + gr + M) : Lie (insE e es) m cr gr M := by
  refine ⟨?_, fun x hx => ?_, fun x hx => ?_⟩
  · rw [insE_key]; exact sorted_ins h.sorted (key_mem hn)
  · rcases mem_insE.1 hx with rfl | hx
    · exact h1
    · exact h.low x hx
  · rcases mem_insE.1 hx with rfl | hx
    · exact h2
    · exact h.high x hx
theorem rise_cons {st : St} {e : Ent} {l : List Ent} (h : st.es = e :: l) : rise st = { st with min := max st.min e.v } := by
  obtain ⟨es, c, m, f⟩ := st
  simp only at h
  subst h
  rfl
theorem rise_nil {st : St} (h : st.es = []) : rise st = st := by
  obtain ⟨es, c, m, f⟩ := st
  simp only at h
  subst h
  rfl
/-- Near, and nobody behind the least one is ahead of it. -/
structure Near (st : St) (cr gr M : Int) : Prop where
  lie : Lie st.es st.min cr gr M
  head : ∀ e l, st.es = e :: l → e.v ≤ st.min
theorem Lie.rise {st : St} {cr gr M : Int} (h : Lie st.es st.min cr gr M) (hc : 0 ≤ cr) (hg : 0 ≤ gr + M) : Near (rise st) cr gr M ∧ st.min ≤ (rise st).min ∧ (rise st).min ≤ st.min + gr + M := by
  cases he : st.es with
  | nil =>
    rw [rise_nil he]
    exact ⟨⟨h, fun e l h1 => by rw [he] at h1; cases h1⟩, Int.le_refl _, by omega⟩
  | cons e l =>
    rw [rise_cons he]
    have hh := h.high e (by rw [he]; simp)
    have hs := head_le (by rw [← he]; exact h.sorted)
    rw [← he] at hs
    refine ⟨⟨⟨h.sorted, fun x hx => ?_, fun x hx => ?_⟩, fun e' l' h1 => ?_⟩, by simp only; omega, by simp only; omega⟩
    · have h1 := hs x hx
      have h2 := h.low x hx
      simp only; omega
    · have h2 := h.high x hx
      simp only; omega
    · simp only at h1
      rw [he] at h1; cases h1
      simp only; omega
theorem hold_in {c : Int} (h0 : 0 ≤ c) (h1 : c ≤ 65535) : Fix.hold c 0 1099511627776 = c := by unfold Fix.hold; rw [if_neg (by omega), if_neg (by omega)]
theorem ends_in {n : Int} (h0 : -9223372036854775808 ≤ n) (h1 : n ≤ 9223372036854775807) : Fix.ends n = n := by unfold Fix.ends; rw [if_neg (by omega), if_neg (by omega)]
theorem reach_in {v g : Int} (h0 : 0 ≤ g) (h1 : g ≤ 65535) (h2 : -65535 ≤ v) (h3 : v ≤ 4611686018427387904) : reach v g = v + g := by
  unfold reach; rw [hold_in h0 h1, ends_in (by omega) (by omega)]
theorem wake_in {o m c : Int} (h0 : 0 ≤ c) (h1 : c ≤ 65535) (h2 : 0 ≤ m) (h3 : m ≤ 4611686018427387904) : Renorm.wake o m c = max o (m - c) := by
  unfold Renorm.wake; rw [hold_in h0 h1, ends_in (by omega) (by omega)]

/-- What is the case of each term. -/
structure Terms (cr gr tk : Int) : Prop where
  c0 : 0 ≤ cr
  c1 : cr ≤ 65535
  g0 : 0 ≤ gr
  g1 : gr ≤ 65535
  t0 : 1 ≤ tk
  t1 : tk ≤ 65536
theorem Terms.most {cr gr tk : Int} (h : Terms cr gr tk) : 0 ≤ mostOf tk ∧ mostOf tk ≤ 1048577 := by
  have := h.t0; have := h.t1; unfold mostOf; omega
/-- Who is current behind a choice is no further ahead than the granularity. -/
theorem other_mem {st : St} {o : Ent} (h : other st = some o) : o ∈ st.es ∧ o.id ≠ st.cur := by
  unfold other at h
  exact mem_drop.1 (List.mem_of_mem_head? h)
theorem other_head {st : St} (ho : Once st.es) {e : Ent} {l : List Ent} (he : st.es = e :: l) {o : Ent} (h : other st = some o) : o = e ∨ (e.id = st.cur ∧ l.head? = some o) := by
  rw [other_first he ho] at h
  split at h
  · rename_i h1; exact .inr ⟨h1, h⟩
  · exact .inl (Option.some.inj h).symm
theorem other_none {st : St} (ho : Once st.es) (h : other st = none) {x : Ent} (hx : x ∈ st.es) : x.id = st.cur := by
  unfold other at h
  have h0 : Queue.drop st.es st.cur = [] := by simpa using h
  by_cases e : x.id = st.cur
  · exact e
  · have : x ∈ Queue.drop st.es st.cur := mem_drop.2 ⟨hx, e⟩
    rw [h0] at this; cases this
theorem chosen_low {st : St} {cr gr tk M : Int} (T : Terms cr gr tk) (ho : Once st.es) (h : Near st cr gr M) (hm : 0 ≤ st.min) (hM : st.min + gr + M ≤ 4611686018427387904) {x : Ent} (hx : x ∈ st.es) (hid : x.id = chosen st gr) : x.v ≤ st.min + gr := by
  have g0 := T.g0
  have g1 := T.g1
  have c1 := T.c1
  have B : ∀ y ∈ st.es, -65535 ≤ y.v ∧ y.v ≤ 4611686018427387904 := fun y hy => by
    have h1 := h.lie.low y hy; have h2 := h.lie.high y hy; omega
  cases hes : st.es with
  | nil => rw [hes] at hx; cases hx
  | cons e l =>
    have he : e.v ≤ st.min := h.head e l hes
    have hem : e ∈ st.es := by rw [hes]; simp
    have hs := head_le (by rw [← hes]; exact h.lie.sorted)
    rw [← hes] at hs
    unfold chosen at hid
    split at hid
    · rename_i hst
      unfold stays at hst
      rw [Bool.and_eq_true] at hst
      obtain ⟨f1, f2⟩ := find_of hst.1
      have hxf : x = find st.es st.cur := once_eq ho hx f1 hid
      cases hoo : other st with
      | none =>
        have h1 := other_none ho hoo hem
        have : x = e := once_eq ho hx hem (by rw [hid, f2, h1])
        subst this; omega
      | some o =>
        rw [hoo] at hst
        have h2 : (find st.es st.cur).v ≤ reach o.v gr := by simpa using hst.2
        obtain ⟨om, _⟩ := other_mem hoo
        rw [reach_in g0 g1 (B o om).1 (B o om).2, ← hxf] at h2
        rcases other_head ho hes hoo with rfl | ⟨h3, _⟩
        · omega
        · have : x = e := once_eq ho hx hem (by rw [hid, f2, h3])
          subst this; omega
    · rename_i hst
      split at hid
      · rename_i hoo
        have := other_none ho hoo hx
        have h1 := other_none ho hoo hem
        have : x = e := once_eq ho hx hem (by rw [this, h1])
        subst this; omega
      · rename_i o hoo
        obtain ⟨om, hne⟩ := other_mem hoo
        have hxo : x = o := once_eq ho hx om hid
        subst hxo
        rcases other_head ho hes hoo with rfl | ⟨h3, _⟩
        · omega
        · have hn : named st.es st.cur = true := List.any_eq_true.2 ⟨e, hem, by simp [h3]⟩
          obtain ⟨f1, f2⟩ := find_of hn
          have hef : find st.es st.cur = e := once_eq ho f1 hem (by rw [f2, h3])
          have h2 : ¬ e.v ≤ reach x.v gr := fun h2 => hst (by unfold stays; rw [hn, hoo, hef]; simpa using h2)
          rw [reach_in g0 g1 (B x om).1 (B x om).2] at h2
          omega
theorem yielded_low {st : St} {cr gr tk M : Int} (T : Terms cr gr tk) (ho : Once st.es) (h : Near st cr gr M) (hm : 0 ≤ st.min) (hM : st.min + gr + M ≤ 4611686018427387904) {x : Ent} (hx : x ∈ st.es) (hid : x.id = yielded st gr) : x.v ≤ st.min + gr := by
  have g0 := T.g0
  have g1 := T.g1
  have c1 := T.c1
  have B : ∀ y ∈ st.es, -65535 ≤ y.v ∧ y.v ≤ 4611686018427387904 := fun y hy => by
    have h1 := h.lie.low y hy; have h2 := h.lie.high y hy; omega
  unfold yielded at hid
  split at hid
  · rename_i hgo
    unfold goes at hgo
    rw [Bool.and_eq_true] at hgo
    cases hoo : other st with
    | none => rw [hoo] at hgo; simp at hgo
    | some o =>
      rw [hoo] at hgo hid
      simp only at hid
      obtain ⟨om, hne⟩ := other_mem hoo
      have hxo : x = o := once_eq ho hx om hid
      subst hxo
      cases hes : st.es with
      | nil => rw [hes] at hx; cases hx
      | cons e l =>
        have he : e.v ≤ st.min := h.head e l hes
        have hem : e ∈ st.es := by rw [hes]; simp
        obtain ⟨f1, f2⟩ := find_of hgo.1
        rcases other_head ho hes hoo with rfl | ⟨h3, _⟩
        · omega
        · have hef : find st.es st.cur = e := once_eq ho f1 hem (by rw [f2, h3])
          have h2 : x.v ≤ reach (find st.es st.cur).v gr := by simpa using hgo.2
          rw [hef, reach_in g0 g1 (B e hem).1 (B e hem).2] at h2
          omega
  · exact chosen_low T ho h hm hM hx hid
end Go.Proofs.Ytfddefenmlcecaa.Queue

/- A bench stays good and near, whatever work is done on it. Conditions: as each fact states them. -/
namespace Go.Proofs.Ytfddefenmlcecaa.Queue
open Tree
set_option linter.unusedVariables false
set_option linter.unusedSimpArgs false

theorem charge_most {rm wt ns tk : Int} (r0 : 0 ≤ rm) (r1 : rm < wt) (w0 : 64 ≤ wt) (n0 : 0 ≤ ns) (n1 : ns ≤ tk) : 0 ≤ (rm + 1024 * ns) / wt ∧ (rm + 1024 * ns) / wt ≤ mostOf tk := by
  have h0 : 0 ≤ (rm + 1024 * ns) / wt := Int.ediv_nonneg (by omega) (by omega)
  refine ⟨h0, ?_⟩
  have h1 := Int.ediv_mul_le (rm + 1024 * ns) (show wt ≠ 0 by omega)
  generalize (rm + 1024 * ns) / wt = q at *
  unfold mostOf
  by_cases hq : q = 0
  · subst hq; omega
  · have h2 : (q - 1) * 64 ≤ (q - 1) * wt := Int.mul_le_mul_of_nonneg_left w0 (by omega)
    rw [Int.sub_mul, Int.sub_mul, Int.one_mul, Int.one_mul] at h2
    omega
theorem Near.charge {st : St} {cr gr tk ns : Int} (T : Terms cr gr tk) (S : Sound st) (h : Near st cr gr (mostOf tk)) (hm : 0 ≤ st.min) (hM : st.min + gr + mostOf tk ≤ 2305843009213693952) (hv : ∀ e ∈ st.es, 64 ≤ e.wt ∧ e.wt ≤ 4095)
    (hlow : ∀ x ∈ st.es, x.id = st.cur → x.v ≤ st.min + gr) (n0 : 0 ≤ ns) (n1 : ns ≤ tk) :
    Near (chargeS st ns) cr gr (mostOf tk) ∧ st.min ≤ (chargeS st ns).min ∧ (chargeS st ns).min ≤ st.min + gr + mostOf tk ∧ (chargeS st ns).flag = st.flag ∧ ∀ e ∈ (chargeS st ns).es, 64 ≤ e.wt ∧ e.wt ≤ 4095 := by
  have hmo := T.most
  have g0 := T.g0
  have c0 := T.c0
  have c1 := T.c1
  by_cases hz : errCharge st ns = 0
  · have hnm : named st.es st.cur = true := by
      unfold errCharge at hz
      cases hh : named st.es st.cur
      · rw [hh] at hz; simp at hz
      · rfl
    have hce : Vrun.cerr (find st.es st.cur).wt (find st.es st.cur).rm ns = 0 := by unfold errCharge at hz; rw [hnm] at hz; simpa using hz
    obtain ⟨f1, f2⟩ := find_of hnm
    have he := S.each _ f1
    have hw := hv _ f1
    obtain ⟨s1, s2, s3, s4, s5, s6, s7⟩ := served_ok (e := find st.es st.cur) n0 he.2.2.1 he.2.2.2.1 he.2.2.2.2.1 he.2.2.2.2.2.1 hce
    obtain ⟨q0, q1⟩ := charge_most he.2.2.2.2.1 he.2.2.2.2.2.1 hw.1 n0 n1
    have l1 := h.lie.low _ f1
    have l2 := hlow _ f1 f2
    have ev : (served (find st.es st.cur) ns).v = (find st.es st.cur).v + ((find st.es st.cur).rm + 1024 * ns) / (find st.es st.cur).wt := by
      show Fix.ends (_ + Vrun.cval _ _ _) = _
      rw [s6]; exact ends_in (by omega) (by omega)
    have eo : over (find st.es st.cur) ns = false := by
      unfold over Fix.fits
      rw [s6]
      simp; omega
    have e0 : chargeS st ns = rise { st with es := insE (served (find st.es st.cur) ns) (Queue.drop st.es st.cur), flag := st.flag || over (find st.es st.cur) ns } := if_pos hz
    have hl : Lie (insE (served (find st.es st.cur) ns) (Queue.drop st.es st.cur)) st.min cr gr (mostOf tk) :=
      (h.lie.drop st.cur).ins (by rw [s1, f2, named_drop]; simp) (by rw [ev]; omega) (by rw [ev]; omega)
    obtain ⟨r1, r2, r3⟩ := Lie.rise (st := { st with es := insE (served (find st.es st.cur) ns) (Queue.drop st.es st.cur), flag := st.flag || over (find st.es st.cur) ns }) hl c0 (by omega)
    rw [e0]
    refine ⟨r1, r2, r3, by rw [rise_flag, eo]; simp, fun e he => ?_⟩
    rw [rise_es] at he
    rcases mem_insE.1 he with rfl | he
    · rw [s2]; exact hw
    · exact hv e (mem_drop.1 he).1
  · have e0 : chargeS st ns = st := if_neg hz
    rw [e0]
    exact ⟨h, Int.le_refl _, by omega, rfl, hv⟩

/-- A bench that is good, all of it near; behind N pieces of work. -/
structure Bnear (n : Bn) (cr gr tk : Int) (N : Int) : Prop where
  good : Good n cr gr tk
  near : Near n.st cr gr (mostOf tk)
  own : ∀ (i : Nat) (e : Ent), n.own[i]? = some e → e.v ≤ n.st.min + gr + mostOf tk
  min0 : 0 ≤ n.st.min
  minN : n.st.min ≤ N * (gr + mostOf tk)
theorem Near.cur {st : St} {cr gr M : Int} (h : Near st cr gr M) (c : Int) : Near { st with cur := c } cr gr M := ⟨h.lie, h.head⟩
theorem pick_sound {st : St} (h : Sound st) (g : Int) : Sound (pickS st g) := h.pick g
theorem yielded_is (st : St) (g : Int) : yielded st g = -1 ∨ named st.es (yielded st g) = true := by
  unfold yielded
  split
  · split
    · exact .inl rfl
    · rename_i o ho
      exact .inr (List.any_eq_true.2 ⟨o, (other_mem ho).1, by simp⟩)
  · exact chosen_is st g
theorem yield_sound {st : St} (h : Sound st) (g : Int) : Sound (yieldS st g) := by
  refine ⟨h.once, h.each, h.few, ?_, h.min⟩
  rcases yielded_is st g with e | e
  · simp only [yieldS, e]; unfold I64; omega
  · obtain ⟨x, hx, hid⟩ := List.any_eq_true.1 e
    have := h.each x hx
    have e2 : x.id = yielded st g := by simpa using hid
    simp only [yieldS, ← e2]
    unfold I64
    omega
theorem setE_mem {e x : Ent} {es : List Ent} (h : x ∈ setE e es) : x = e ∨ x ∈ es := by
  unfold setE at h
  obtain ⟨d, hd, rfl⟩ := List.mem_map.1 h
  split
  · exact .inl rfl
  · exact .inr hd
theorem Bnear.work {n : Bn} {cr gr tk N : Int} {k : Wk} {ws : Bool} (h : Bnear n cr gr tk N) (T : Terms cr gr tk) (hk : k.Ok) (N0 : 0 ≤ N) (N1 : N ≤ 1000) : Bnear (workB n cr gr tk ws k) cr gr tk (N + 1) := by
  obtain ⟨G, Hn, Ho, m0, mN⟩ := h
  have hmo := T.most
  have g0 := T.g0
  have g1 := T.g1
  have c0 := T.c0
  have c1 := T.c1
  have hkw := hk.who
  have hid8 : 0 ≤ k.id ∧ k.id < 8 := by unfold Wk.id; omega
  have hNM : N * (gr + mostOf tk) ≤ 1000 * (gr + mostOf tk) := Int.mul_le_mul_of_nonneg_right N1 (by omega)
  have hM : n.st.min + gr + mostOf tk ≤ 2305843009213693952 := by omega
  have hN' : (N + 1) * (gr + mostOf tk) = N * (gr + mostOf tk) + (gr + mostOf tk) := by rw [Int.add_mul, Int.one_mul]
  obtain ⟨st, own⟩ := n
  simp only at *
  unfold workB
  split
  · simp only
    split
    · rename_i hnm
      obtain ⟨f1, f2⟩ := find_of hnm
      have e0 : dropS st k.id = rise { st with es := Queue.drop st.es k.id, cur := if st.cur = k.id then -1 else st.cur } := if_pos hnm
      obtain ⟨r1, r2, r3⟩ := Lie.rise (st := { st with es := Queue.drop st.es k.id, cur := if st.cur = k.id then -1 else st.cur }) (Hn.lie.drop k.id) c0 (by omega)
      have S := G.sound.drop (id := k.id)
      have hs := G.sound.each _ f1
      have hh := G.heavy _ f1
      refine ⟨⟨S.pick gr, ?_, ?_, ?_, ?_⟩, ?_, ?_, ?_, ?_⟩
      · show (dropS st k.id).flag = false
        rw [e0, rise_flag]; exact G.flag
      · intro e he
        have he : e ∈ (dropS st k.id).es := he
        rw [e0, rise_es] at he
        exact G.heavy e (mem_drop.1 he).1
      · intro i e he
        simp only at he
        by_cases hi : i = k.id.toNat
        · subst hi
          rw [List.getElem?_set_self (by have : own.length = 8 := G.len; omega)] at he
          cases he
          exact ⟨by rw [f2]; omega, hh.1, hh.2, hs.2.2.2.2.1, hs.2.2.2.2.2.1, hs.2.2.2.2.2.2⟩
        · rw [List.getElem?_set_ne (fun e => hi e.symm)] at he
          exact G.own i e he
      · simp only [List.length_set]; exact G.len
      · show Near (pickS (dropS st k.id) gr) cr gr (mostOf tk)
        rw [e0]; exact r1.cur _
      · intro i e he
        have hm' : st.min ≤ (dropS st k.id).min := by rw [e0]; exact r2
        show e.v ≤ (dropS st k.id).min + gr + mostOf tk
        simp only at he
        by_cases hi : i = k.id.toNat
        · subst hi
          rw [List.getElem?_set_self (by have : own.length = 8 := G.len; omega)] at he
          cases he
          have := Hn.lie.high _ f1; omega
        · rw [List.getElem?_set_ne (fun e => hi e.symm)] at he
          have := Ho i e he; omega
      · show 0 ≤ (dropS st k.id).min
        rw [e0]; have r2' := r2; simp only at r2'; omega
      · show (dropS st k.id).min ≤ _
        rw [e0]; have r3' := r3; simp only at r3'; omega
    · rename_i hnm
      have hnm : named st.es k.id = false := by simpa using hnm
      obtain ⟨eo, ho⟩ : ∃ eo, own[k.id.toNat]? = some eo := ⟨_, List.getElem?_eq_getElem (by have : own.length = 8 := G.len; omega)⟩
      obtain ⟨o1, o2, o3, o4, o5, o6⟩ := G.own _ _ ho
      have ow := Ho _ _ ho
      rw [ho, Option.getD_some]
      have ew : Renorm.wake eo.v st.min cr = max eo.v (st.min - cr) := wake_in c0 c1 m0 (by omega)
      have hid' : eo.id = k.id := by rw [o1]; omega
      have S : Sound (putS st { eo with v := Renorm.wake eo.v st.min cr }) := G.sound.put (e := { eo with v := Renorm.wake eo.v st.min cr }) (by simp only [hid']; unfold I64; omega) (i64_wake o6) o4
      have hl : Lie (insE { eo with v := Renorm.wake eo.v st.min cr } st.es) st.min cr gr (mostOf tk) := Hn.lie.ins (by simp only [hid']; exact hnm) (by simp only [ew]; omega) (by simp only [ew]; omega)
      have P : Near (putS st { eo with v := Renorm.wake eo.v st.min cr }) cr gr (mostOf tk) ∧ st.min ≤ (putS st { eo with v := Renorm.wake eo.v st.min cr }).min ∧ (putS st { eo with v := Renorm.wake eo.v st.min cr }).min ≤ st.min + gr + mostOf tk ∧ (putS st { eo with v := Renorm.wake eo.v st.min cr }).flag = st.flag ∧ ∀ e ∈ (putS st { eo with v := Renorm.wake eo.v st.min cr }).es, 64 ≤ e.wt ∧ e.wt ≤ 4095 := by
        unfold putS
        split
        · obtain ⟨r1, r2, r3⟩ := Lie.rise (st := { st with es := insE { eo with v := Renorm.wake eo.v st.min cr } st.es }) hl c0 (by omega)
          refine ⟨r1, r2, r3, rise_flag _, fun e he => ?_⟩
          rw [rise_es] at he
          rcases mem_insE.1 he with rfl | he
          · exact ⟨o2, o3⟩
          · exact G.heavy e he
        · exact ⟨Hn, Int.le_refl _, by omega, rfl, G.heavy⟩
      obtain ⟨r1, r2, r3, r4, r5⟩ := P
      generalize putS st { eo with v := Renorm.wake eo.v st.min cr } = sp at *
      exact ⟨⟨S.pick gr, r4.trans G.flag, r5, G.own, G.len⟩, r1.cur _, fun i e he => by have := Ho i e he; show e.v ≤ sp.min + gr + mostOf tk; omega, by show 0 ≤ sp.min; omega, by show sp.min ≤ _; omega⟩
  · split
    · have P : Near (weighS st k.id (heavyOf k.weight)) cr gr (mostOf tk) ∧ st.min ≤ (weighS st k.id (heavyOf k.weight)).min ∧ (weighS st k.id (heavyOf k.weight)).min ≤ st.min + gr + mostOf tk ∧ (weighS st k.id (heavyOf k.weight)).flag = st.flag ∧ ∀ e ∈ (weighS st k.id (heavyOf k.weight)).es, 64 ≤ e.wt ∧ e.wt ≤ 4095 := by
        have hw := hk.weight
        have hhv : 64 ≤ heavyOf k.weight ∧ heavyOf k.weight ≤ 4095 := by unfold heavyOf; omega
        unfold weighS
        split
        · rename_i hz
          have hnm : named st.es k.id = true := by
            unfold errWeigh at hz
            cases hh : named st.es k.id
            · rw [hh] at hz; simp at hz
            · rfl
          obtain ⟨f1, f2⟩ := find_of hnm
          have hk' := setE_keys (e := weighed (find st.es k.id) (heavyOf k.weight)) G.sound.once f1 rfl rfl
          have hl : Lie (setE (weighed (find st.es k.id) (heavyOf k.weight)) st.es) st.min cr gr (mostOf tk) := by
            refine ⟨by rw [hk']; exact Hn.lie.sorted, fun e he => ?_, fun e he => ?_⟩
            · rcases setE_mem he with rfl | he
              · exact (show st.min - cr ≤ (find st.es k.id).v from Hn.lie.low _ f1)
              · exact Hn.lie.low e he
            · rcases setE_mem he with rfl | he
              · exact (show (find st.es k.id).v ≤ st.min + gr + mostOf tk from Hn.lie.high _ f1)
              · exact Hn.lie.high e he
          obtain ⟨r1, r2, r3⟩ := Lie.rise (st := { st with es := setE (weighed (find st.es k.id) (heavyOf k.weight)) st.es }) hl c0 (by omega)
          refine ⟨r1, r2, r3, rise_flag _, fun e he => ?_⟩
          rw [rise_es] at he
          rcases setE_mem he with rfl | he
          · exact hhv
          · exact G.heavy e he
        · exact ⟨Hn, Int.le_refl _, by omega, rfl, G.heavy⟩
      have S : Sound (weighS st k.id (heavyOf k.weight)) := G.sound.weigh _ _ (by have hw := hk.weight; unfold heavyOf; omega)
      obtain ⟨r1, r2, r3, r4, r5⟩ := P
      generalize weighS st k.id (heavyOf k.weight) = sp at *
      exact ⟨⟨S.pick gr, r4.trans G.flag, r5, G.own, G.len⟩, r1.cur _, fun i e he => by have := Ho i e he; show e.v ≤ sp.min + gr + mostOf tk; omega, by show 0 ≤ sp.min; omega, by show sp.min ≤ _; omega⟩
    · have hs1 : (runS st gr k.yields).es = st.es ∧ (runS st gr k.yields).min = st.min ∧ (runS st gr k.yields).flag = st.flag := by unfold runS; split <;> exact ⟨rfl, rfl, rfl⟩
      have S1 : Sound (runS st gr k.yields) := by
        unfold runS; split
        · exact yield_sound (pick_sound G.sound gr) gr
        · exact pick_sound G.sound gr
      have N1' : Near (runS st gr k.yields) cr gr (mostOf tk) := by
        unfold runS; split
        · exact (Hn.cur _).cur _
        · exact Hn.cur _
      have hM4 : st.min + gr + mostOf tk ≤ 4611686018427387904 := by omega
      have low : ∀ x ∈ (runS st gr k.yields).es, x.id = (runS st gr k.yields).cur → x.v ≤ (runS st gr k.yields).min + gr := by
        cases k.yields
        · intro x hx hid
          exact chosen_low (st := st) T G.sound.once Hn m0 hM4 hx hid
        · intro x hx hid
          exact yielded_low (st := pickS st gr) T G.sound.once (Hn.cur _) m0 hM4 hx hid
      obtain ⟨e1, e2, e3⟩ := hs1
      generalize runS st gr k.yields = sr at *
      have hns : 0 ≤ k.ns % (tk + 1) ∧ k.ns % (tk + 1) ≤ tk := by
        have := T.t0
        have h1 := Int.emod_nonneg k.ns (b := tk + 1) (by omega)
        have h2 := Int.emod_lt_of_pos k.ns (b := tk + 1) (by omega)
        omega
      obtain ⟨r1, r2, r3, r4, r5⟩ := N1'.charge (ns := k.ns % (tk + 1)) T S1 (by omega) (by omega) (by rw [e1]; exact G.heavy) low hns.1 hns.2
      split
      · have S2 := S1.charge hns.1
        generalize chargeS sr (k.ns % (tk + 1)) = sp at *
        exact ⟨⟨S2.pick gr, (r4.trans e3).trans G.flag, r5, G.own, G.len⟩, r1.cur _, fun i e he => by have := Ho i e he; show e.v ≤ sp.min + gr + mostOf tk; omega, by show 0 ≤ sp.min; omega, by show sp.min ≤ _; omega⟩
      · exact ⟨⟨S1, e3.trans G.flag, by rw [e1]; exact G.heavy, G.own, G.len⟩, N1', fun i e he => by have := Ho i e he; show e.v ≤ sr.min + gr + mostOf tk; omega, by show 0 ≤ sr.min; omega, by show sr.min ≤ _; omega⟩
end Go.Proofs.Ytfddefenmlcecaa.Queue

/- The law RunqNear, walked. Conditions: each argument is a number of its kind. -/
namespace Go.Proofs.Ytfddefenmlcecaa.Queue
open Go.ChangeShapes Go.WideShapes Go.ChangeAt Go.RowKit Tree
set_option linter.unusedVariables false
set_option linter.unusedSimpArgs false
set_option maxRecDepth 100000

theorem min_still (w : World) (q : Nat) (O : Nat → Prop) (st : St) (h : Qu w q O st) : Calls Try.prog 29 #[.pointer (some ⟨q, 0, none⟩)] w (fun e w' => e = .returned (.int .i64 st.min) ∧ w' = w) := by
  have M := Lib.hid (made w q O st h)
  obtain ⟨m, t, T, h⟩ := h
  obtain ⟨c0, c1, c2, c3, c4, fz⟩ := h.blk.cells
  clear h
  go_enter Try.func29, Try.ntmps29
  go_wp2_with (go_at_call 39; refine (M.out).mono ?_; rintro e w1 ⟨rfl, rfl⟩)
  go_ret; exact ⟨rfl, rfl⟩
theorem most_still (w : World) (b q : Nat) (own : List Ent) (cr gr tk : Int) (h : Be w b q own cr gr tk) (h1 : 0 ≤ tk) (h2 : tk ≤ 65536) : Calls Try.prog 30 #[.pointer (some ⟨b, 0, none⟩)] w (fun e w' => e = .returned (.int .i64 (mostOf tk)) ∧ w' = w) := by
  obtain ⟨c0, c1, c2, c3, fz⟩ := h.cells
  clear h
  go_enter Try.func30, Try.ntmps30
  go_wp2
  go_ret
  exact ⟨rfl, rfl⟩
theorem box_3 {w : World} {b : Nat} {x y z : Value} {t : TypeId} (hb : w.heap[b]? = some (.cells #[x, y, z] t (0, 0))) : w.cell? ⟨b, 0, none⟩ = some x ∧ w.cell? ⟨b, 1, none⟩ = some y ∧ w.cell? ⟨b, 2, none⟩ = some z := by
  refine ⟨?_, ?_, ?_⟩
  all_goals rw [cell_of_row w b _ _ _ _ hb]; rfl
theorem own0_at : ∀ i, i < 8 → own0[i]? = some ⟨(i : Int), 1024, 0, 0⟩ := by decide
theorem near_new {cr gr tk : Int} (T : Terms cr gr tk) : Bnear ⟨St.new, own0⟩ cr gr tk 0 := by
  have hM := T.most
  have g0 := T.g0
  have key : ∀ (i : Nat) (e : Ent), own0[i]? = some e → e = ⟨(i : Int), 1024, 0, 0⟩ := fun i e h => by
    have hi : i < 8 := (List.getElem?_eq_some_iff.1 h).1
    rw [own0_at i hi] at h
    exact (Option.some.inj h).symm
  refine ⟨⟨Sound.new, rfl, fun e he => by simp [St.new] at he, fun i e h => ?_, rfl⟩, ⟨⟨List.Pairwise.nil, fun e he => by simp [St.new] at he, fun e he => by simp [St.new] at he⟩, fun e l h => by simp [St.new] at h⟩, fun i e h => ?_, by simp [St.new], by simp [St.new]⟩
  · rw [key i e h]; refine ⟨rfl, ?_, ?_, ?_, ?_, ?_⟩ <;> (try unfold I64) <;> simp only <;> omega
  · rw [key i e h]; show (0 : Int) ≤ 0 + gr + mostOf tk; omega
/-- A slice of pieces of work that came in. -/
def Works (u : Option Addr) (len : Nat) (w : World) : Prop := ∀ j, j < len → ∃ (k off : Nat), u = some ⟨k, off, none⟩ ∧ k < w.heap.size ∧ ∃ x : Wk, x.Ok ∧ w.cell? ⟨k, off + j * 5, none⟩ = some (.int .i64 x.kind) ∧ w.cell? ⟨k, off + j * 5 + 1, none⟩ = some (.int .u8 x.who) ∧ w.cell? ⟨k, off + j * 5 + 2, none⟩ = some (.int .u32 x.weight) ∧ w.cell? ⟨k, off + j * 5 + 3, none⟩ = some (.int .u32 x.ns) ∧ w.cell? ⟨k, off + j * 5 + 4, none⟩ = some (.bool x.yields)
theorem Works.fresh {u : Option Addr} {len : Nat} {w w' : World} (h : Works u len w) (g : Below w.heap.size w w') : Works u len w' := by
  intro j hj
  obtain ⟨k, off, e, hk, x, hx, c0, c1, c2, c3, c4⟩ := h j hj
  exact ⟨k, off, e, Nat.lt_of_lt_of_le hk g.size, x, hx, (g.cell (p := ⟨k, _, none⟩) hk).trans c0, (g.cell (p := ⟨k, _, none⟩) hk).trans c1, (g.cell (p := ⟨k, _, none⟩) hk).trans c2, (g.cell (p := ⟨k, _, none⟩) hk).trans c3, (g.cell (p := ⟨k, _, none⟩) hk).trans c4⟩
def NearL (w1 : World) (b q : Nat) (cr gr tk : Int) (left : Nat) (t7 : Value) (wr : World) : Prop :=
  ∃ (i : Nat) (n : Bn), left + i = 200 ∧ t7 = .int .i64 i ∧ Bnear n cr gr tk i ∧ Be wr b q n.own cr gr tk ∧ Qu wr q (fun j => j < w1.heap.size ∨ j = b) n.st ∧ Below w1.heap.size w1 wr
def EachL (w4 : World) (len : Nat) (left : Nat) (t9 : Value) (wr : World) : Prop := ∃ j : Nat, left + j = len ∧ t9 = .int .i64 j ∧ Below w4.heap.size w4 wr

set_option maxHeartbeats 8000000 in
theorem nearLaw (c g k : Int) (u : Option Addr) (len cap : Nat) (w : World) (hc : 0 ≤ c ∧ c ≤ 65535) (hg : 0 ≤ g ∧ g ≤ 65535) (hk : 0 ≤ k ∧ k ≤ 65535) (hl : len ≤ 9223372036854775807) (hW : Works u len w) :
    Calls Try.prog 4 #[.agg #[.int .u16 c, .int .u16 g, .int .u16 k], .slice u len cap] w (IsTrue w) := by
  have T : Terms c g (1 + k) := ⟨hc.1, hc.2, hg.1, hg.2, by omega, by omega⟩
  have hA := heap_alloc_new w (.cells #[.int .u16 c, .int .u16 g, .int .u16 k] 53)
  have gA := (Below.refl _ w).alloc (Nat.le_refl _) (.cells #[.int .u16 c, .int .u16 g, .int .u16 k] 53)
  replace hW := Lib.hid hW
  go_enter Try.func4, Try.ntmps4
  go_wp2_with fail
  go_at_call 10; refine (awake _).mono ?_; rintro e w1 ⟨rfl, hg1⟩
  replace hA := (hg1.block _ (lt_of hA)).trans hA
  have hgw : Below w.heap.size w w1 := gA.trans (hg1.mono gA.size)
  replace hW := Lib.hid (hW.out.fresh hgw)
  obtain ⟨a0, a1, a2⟩ := box_3 hA
  clear hg1 gA hA
  go_wp2_with fail
  go_at_call 26; refine (sets c g k _ hc hg hk).mono ?_; rintro e w2 ⟨b, q, hb, hq, rfl, hg2, hBe, hQu⟩
  have hQ := hQu (· < w1.heap.size) (fun _ h => h)
  have st0 : NearL w1 b q c g (1 + k) 200 (.int .i64 0) w2 := ⟨0, ⟨St.new, own0⟩, rfl, rfl, near_new T, hBe, hQ, hg2⟩
  replace st0 := Lib.hid st0
  clear hBe hQu hQ hg2 a0 a1 a2
  go_wp2_with fail
  go_loopg [7] 200 (fun left t7 wr => NearL w1 b q c g (1 + k) left t7 wr)
  case atStart => exact st0.out
  case round =>
    clear st0
    obtain ⟨i, n, hi, rfl, hN, hB, hQ, hbw⟩ := hrel
    by_cases hlt : i < len ∧ i < 200
    · obtain ⟨h1, h2⟩ := hlt
      have q1 : (i : Int) < len := by omega
      have q2 : (i : Int) < 200 := by omega
      obtain ⟨kb, off, rfl, hkb, x, hx, c0, c1, c2, c3, c4⟩ := (hW.out.fresh hbw) i h1
      have WK : Hid (Calls Try.prog 27 #[.pointer (some ⟨b, 0, none⟩), .agg #[.int .i64 x.kind, .int .u8 x.who, .int .u32 x.weight, .int .u32 x.ns, .bool x.yields], .bool true] wr _) :=
        work wr b q (· < w1.heap.size) n c g (1 + k) x true hB hQ (fun j hj => Nat.lt_of_lt_of_le hj hbw.size) (by omega) hN.good (by unfold I64; omega) (by unfold I64; omega) (by omega) hx
      have hN' : Bnear (workB n c g (1 + k) true x) c g (1 + k) ((i + 1 : Nat) : Int) := by
        have := hN.work (k := x) (ws := true) T hx (by omega) (by omega)
        rwa [show ((i : Int) + 1) = ((i + 1 : Nat) : Int) by omega] at this
      clear hN hB hQ
      generalize workB n c g (1 + k) true x = n' at *
      generalize workA n c g (1 + k) true x = wa at *
      go_wp2_with fail
      go_at_call 27; refine WK.out.mono ?_; rintro e w3 ⟨rfl, hB3, hQ3, hs3⟩
      have hb3 := hbw.trans hs3.below
      clear WK hbw hs3 c0 c1 c2 c3 c4
      obtain ⟨d0, d33, d34, d35, dz⟩ := hB3.cells
      have S := hN'.good.sound
      have EN := Lib.hid (ents w3 q _ n'.st hQ3 S.once (fun e he => by have := S.each e he; unfold I64; omega) (by have := S.few; omega))
      have few := S.few
      have lie := Lib.hid hN'.near.lie
      have hmo := T.most
      have tg := T.g1
      have tg0 := T.g0
      have tc0 := T.c0
      have tc1 := T.c1
      have m0 := hN'.min0
      have mN := hN'.minN
      have mB : n'.st.min ≤ 240000000000 := by
        have : ((i + 1 : Nat) : Int) * (g + mostOf (1 + k)) ≤ 200 * (g + mostOf (1 + k)) := Int.mul_le_mul_of_nonneg_right (by omega) (by omega)
        omega
      have NX : Hid (∀ w', Below w3.heap.size w3 w' → NearL w1 b q c g (1 + k) (200 - (i + 1)) (.int .i64 ((i : Int) + 1)) w') := fun w' hg => ⟨i + 1, n', by omega, by go_num, hN', hB3.fresh hg, hQ3.fresh hg, hb3.trans (hg.mono hb3.size)⟩
      have HB3 := Lib.hid hB3
      have HQ3 := Lib.hid hQ3
      clear hN' S hB3 hQ3 mN
      go_wp2_with fail
      go_at_call 28; refine EN.out.mono ?_; rintro e w4 ⟨lv, rfl, hr, hg4⟩
      obtain ⟨ao, cp, rfl, hao, hcp⟩ := hr.shape
      clear EN d0 d33 d34 d35 dz
      generalize hes : n'.st.es = es at *
      generalize hmn : n'.st.min = mn at *
      have MN : Hid (∀ w', Below w3.heap.size w3 w' → Calls Try.prog 29 #[.pointer (some ⟨q, 0, none⟩)] w' (fun e w'' => e = .returned (.int .i64 mn) ∧ w'' = w')) := fun w' hg => by rw [← hmn]; exact min_still w' q _ n'.st (HQ3.out.fresh hg)
      have MO : Hid (∀ w', Below w3.heap.size w3 w' → Calls Try.prog 30 #[.pointer (some ⟨b, 0, none⟩)] w' (fun e w'' => e = .returned (.int .i64 (mostOf (1 + k))) ∧ w'' = w')) := fun w' hg => most_still w' b q n'.own c g (1 + k) (HB3.out.fresh hg) (by omega) (by omega)
      generalize mostOf (1 + k) = M at *
      clear hmn hes
      go_wp2_with fail
      go_loopg [9] es.length (fun left t9 wx => EachL w4 es.length left t9 wx)
      case atStart => exact ⟨0, by omega, rfl, Below.refl _ _⟩
      case round =>
        obtain ⟨j, hj, rfl, hbx⟩ := hrel
        have hgx := hg4.trans (hbx.mono hg4.size)
        by_cases hlj : j < es.length
        · have q3 : (j : Int) < es.length := by omega
          have q4 : (0 : Int) ≤ (j : Int) := by omega
          have q5 : (j : Int) ≤ es.length := by omega
          obtain ⟨e, he⟩ : ∃ e, es[j]? = some e := ⟨es[j], by simp [hlj]⟩
          have hem : e ∈ es := List.mem_of_getElem? he
          have lo := Lib.hid (lie.out.low e hem)
          have hi' := Lib.hid (lie.out.high e hem)
          obtain ⟨_, _, x2, _⟩ := cellsE_at he
          rcases hao with h0 | ⟨gg, rfl⟩
          · omega
          have r2 := hr.1.cellAt (j * 4 + 2) (by omega)
          rw [x2] at r2
          replace r2 := (hbx.cell (World.block_lt_of_cell? w4 _ r2)).trans r2
          obtain ⟨d0, d33, d34, d35, dz⟩ := (HB3.out.fresh hgx).cells
          have BW : Hid (∀ nq, Below w3.heap.size w3 (wr.drewN nq)) := fun nq => hgx.trans ⟨rfl, rfl, rfl, Nat.le_refl _, fun _ _ => rfl⟩
          generalize e.v = ev at *
          clear x2 he hem hgx
          go_wp2_with fail
          have e1 : IntKind.i64.wrap (mn - c) = mn - c := by rw [IntKind.wrap_i64]; omega
          have e2 : IntKind.i64.wrap (mn + g) = mn + g := by rw [IntKind.wrap_i64]; omega
          have e3 : IntKind.i64.wrap (mn + g + M) = mn + g + M := by rw [IntKind.wrap_i64]; omega
          have p1 : decide (ev < mn - c) = false := by have := lo.out; simp; omega
          have p2 : decide (mn + g + M < ev) = false := by have := hi'.out; simp; omega
          go_quiet (first
            | (go_at_call 29; refine Calls.quiet_of_same (MN.out _ ?_); exact BW.out _)
            | (go_at_call 30; refine Calls.quiet_of_same (MO.out _ ?_); exact BW.out _))
          go_wp2_with fail
          go_roundg (gk - 1)
          case measure => omega
          case rel => exact ⟨j + 1, by omega, by go_num, hbx.trans ⟨rfl, rfl, rfl, Nat.le_refl _, fun _ _ => rfl⟩⟩
        · have q3 : ¬ (j : Int) < es.length := by omega
          go_wp2_with fail
          go_roundg (200 - (i + 1))
          case measure => omega
          case rel => exact NX.out _ hgx
    · obtain ⟨d0, d33, d34, d35, dz⟩ := hB.cells
      have FL := Lib.hid (flags wr q _ n.st hQ)
      rw [hN.good.flag] at FL
      have hbw' := Lib.hid (hgw.trans (hbw.mono hgw.size))
      clear hN hB hQ hbw
      by_cases h1 : i < len
      · have q1 : (i : Int) < len := by omega
        have q2 : ¬ (i : Int) < 200 := by omega
        have q2' : decide ((i : Int) < 200) = false := by simpa using q2
        go_wp2_with fail
        go_at_call 31; refine FL.out.mono ?_; rintro e w5 ⟨rfl, hg5⟩
        go_wp2_with fail
        go_ret
        exact ⟨rfl, hbw'.out.trans (hg5.mono hbw'.out.size)⟩
      · have q1 : ¬ (i : Int) < len := by omega
        have q2' : decide ((i : Int) < len) = false := by simpa using q1
        go_wp2_with fail
        go_at_call 31; refine FL.out.mono ?_; rintro e w5 ⟨rfl, hg5⟩
        go_wp2_with fail
        go_ret
        exact ⟨rfl, hbw'.out.trans (hg5.mono hbw'.out.size)⟩
end Go.Proofs.Ytfddefenmlcecaa.Queue

/- Who is never dropped or weighed goes on by what it was served, exactly; the numbers of who stands in a bench's queue. Conditions: as each fact states them. -/
namespace Go.Proofs.Ytfddefenmlcecaa.Queue
open Tree
set_option linter.unusedVariables false
set_option linter.unusedSimpArgs false

/-- One that stays: its number, its weight, and what it was served since it stood at v0. -/
def Stays (st : St) (id x v0 s : Int) : Prop := ∃ e ∈ st.es, e.id = id ∧ e.wt = x ∧ e.v = v0 + 1024 * s / x ∧ e.rm = 1024 * s % x
theorem Stays.rise {st : St} {id x v0 s : Int} (h : Stays st id x v0 s) : Stays (rise st) id x v0 s := by unfold Stays; rw [rise_es]; exact h
theorem Stays.ins {st : St} {id x v0 s : Int} (h : Stays st id x v0 s) (d : Ent) : Stays { st with es := insE d st.es } id x v0 s := by
  obtain ⟨e, he, h⟩ := h
  exact ⟨e, mem_insE.2 (.inr he), h⟩
theorem Stays.off {st : St} {id x v0 s : Int} (h : Stays st id x v0 s) {j c : Int} (hne : j ≠ id) : Stays { st with es := Queue.drop st.es j, cur := c } id x v0 s := by
  obtain ⟨e, he, h1, h⟩ := h
  exact ⟨e, mem_drop.2 ⟨he, by omega⟩, h1, h⟩
theorem setE_other {d e : Ent} {es : List Ent} (h : e ∈ es) (hne : e.id ≠ d.id) : e ∈ setE d es := by
  unfold setE
  exact List.mem_map.2 ⟨e, h, if_neg hne⟩
/-- One more charge is one more part of the whole. -/
theorem more_served {x s ns : Int} (hx : 0 < x) : 1024 * s / x + (1024 * s % x + 1024 * ns) / x = 1024 * (s + ns) / x ∧ (1024 * s % x + 1024 * ns) % x = 1024 * (s + ns) % x := by
  have e : 1024 * (s + ns) = (1024 * s % x + 1024 * ns) + x * (1024 * s / x) := by
    have := Int.emod_add_mul_ediv (1024 * s) x
    rw [Int.mul_add]; omega
  rw [e, Int.add_mul_ediv_left _ _ (by omega), Int.add_mul_emod_self_left]
  omega
theorem Stays.work {n : Bn} {cr gr tk N id x v0 s : Int} {k : Wk} {ws : Bool} (h : Bnear n cr gr tk N) (T : Terms cr gr tk) (hk : k.Ok) (N0 : 0 ≤ N) (N1 : N ≤ 1000) (hs : Stays n.st id x v0 s) (hid : 8 ≤ id) :
    Stays (workB n cr gr tk ws k).st id x v0 (s + if (workA n cr gr tk ws k).1 = id then (workA n cr gr tk ws k).2 else 0) := by
  obtain ⟨G, Hn, Ho, m0, mN⟩ := h
  have hmo := T.most
  have g0 := T.g0
  have g1 := T.g1
  have c1 := T.c1
  have hkw := hk.who
  have hid8 : 0 ≤ k.id ∧ k.id < 8 := by unfold Wk.id; omega
  have hNM : N * (gr + mostOf tk) ≤ 1000 * (gr + mostOf tk) := Int.mul_le_mul_of_nonneg_right N1 (by omega)
  obtain ⟨st, own⟩ := n
  simp only at *
  unfold workB workA
  by_cases h0 : k.kind = 0
  · rw [if_pos h0, if_pos h0]
    simp only
    rw [show s + (if (-1 : Int) = id then (0 : Int) else 0) = s by split <;> omega]
    split
    · rename_i hnm
      show Stays (pickS (dropS st k.id) gr) id x v0 s
      rw [show dropS st k.id = Queue.rise { st with es := Queue.drop st.es k.id, cur := if st.cur = k.id then -1 else st.cur } from if_pos hnm]
      exact (hs.off (by omega)).rise
    · show Stays (pickS (putS st _) gr) id x v0 s
      unfold putS
      split
      · exact (hs.ins _).rise
      · exact hs
  · rw [if_neg h0, if_neg h0]
    by_cases h1 : k.kind = 1 ∧ ws = true
    · rw [if_pos h1, if_pos h1]
      simp only
      rw [show s + (if (-1 : Int) = id then (0 : Int) else 0) = s by split <;> omega]
      show Stays (pickS (weighS st k.id (heavyOf k.weight)) gr) id x v0 s
      unfold weighS
      split
      · rename_i hz
        have hnm : named st.es k.id = true := by
          unfold errWeigh at hz
          cases hh : named st.es k.id
          · rw [hh] at hz; simp at hz
          · rfl
        obtain ⟨f1, f2⟩ := find_of hnm
        obtain ⟨e, he, q1, q⟩ := hs
        exact Stays.rise (st := { st with es := setE (weighed (find st.es k.id) (heavyOf k.weight)) st.es }) ⟨e, setE_other he (by show e.id ≠ (find st.es k.id).id; omega), q1, q⟩
      · exact hs
    · rw [if_neg h1, if_neg h1]
      have hs1 : (runS st gr k.yields).es = st.es ∧ (runS st gr k.yields).min = st.min := by unfold runS; split <;> exact ⟨rfl, rfl⟩
      have S1 : Sound (runS st gr k.yields) := by
        unfold runS; split
        · exact yield_sound (pick_sound G.sound gr) gr
        · exact pick_sound G.sound gr
      have H : Stays (runS st gr k.yields) id x v0 s := by unfold Stays; rw [hs1.1]; exact hs
      obtain ⟨e1, e2⟩ := hs1
      generalize runS st gr k.yields = sr at *
      have hns : 0 ≤ k.ns % (tk + 1) := Int.emod_nonneg k.ns (by have := T.t0; omega)
      have hns2 : k.ns % (tk + 1) ≤ tk := by have := T.t0; have := Int.emod_lt_of_pos k.ns (show 0 < tk + 1 by omega); omega
      split
      · rename_i hz
        have hnm : named sr.es sr.cur = true := by
          unfold errCharge at hz
          cases hh : named sr.es sr.cur
          · rw [hh] at hz; simp at hz
          · rfl
        have hce : Vrun.cerr (find sr.es sr.cur).wt (find sr.es sr.cur).rm (k.ns % (tk + 1)) = 0 := by unfold errCharge at hz; rw [hnm] at hz; simpa using hz
        obtain ⟨f1, f2⟩ := find_of hnm
        have hse := S1.each _ f1
        obtain ⟨s1, s2, s3, s4, s5, s6, s7⟩ := served_ok (e := find sr.es sr.cur) hns hse.2.2.1 hse.2.2.2.1 hse.2.2.2.2.1 hse.2.2.2.2.2.1 hce
        show Stays (pickS (chargeS sr (k.ns % (tk + 1))) gr) id x v0 _
        rw [show chargeS sr (k.ns % (tk + 1)) = Queue.rise { sr with es := insE (served (find sr.es sr.cur) (k.ns % (tk + 1))) (Queue.drop sr.es sr.cur), flag := sr.flag || over (find sr.es sr.cur) (k.ns % (tk + 1)) } from if_pos hz]
        refine Stays.rise (st := { sr with es := insE (served (find sr.es sr.cur) (k.ns % (tk + 1))) (Queue.drop sr.es sr.cur), flag := sr.flag || over (find sr.es sr.cur) (k.ns % (tk + 1)) }) ?_
        obtain ⟨e, he, q1, q2, q3, q4⟩ := H
        by_cases hc : sr.cur = id
        · simp only
          rw [if_pos hc]
          have hef : find sr.es sr.cur = e := once_eq S1.once f1 he (by rw [f2, q1, hc])
          have hw := G.heavy e (by rw [← e1]; exact he)
          obtain ⟨c0', c1'⟩ := charge_most hse.2.2.2.2.1 hse.2.2.2.2.2.1 (by rw [hef]; exact hw.1) hns hns2
          have l1 := Hn.lie.low e (by rw [← e1]; exact he)
          have l2 := Hn.lie.high e (by rw [← e1]; exact he)
          obtain ⟨m1, m2⟩ := more_served (x := x) (s := s) (ns := k.ns % (tk + 1)) (by rw [← q2]; omega)
          rw [hef] at s6 s7 c0' c1'
          rw [hef]
          refine ⟨served e (k.ns % (tk + 1)), mem_insE.2 (.inl rfl), q1, q2, ?_, ?_⟩
          · show Fix.ends (e.v + Vrun.cval e.wt e.rm (k.ns % (tk + 1))) = _
            rw [s6, ends_in (by omega) (by omega), ← m1, q3, q4, q2]; omega
          · rw [s7, q4, q2]; exact m2
        · simp only
          rw [if_neg hc, Int.add_zero]
          exact ⟨e, mem_insE.2 (.inr (mem_drop.2 ⟨he, by omega⟩)), q1, q2, q3, q4⟩
      · simp only
        rw [show s + (if (-1 : Int) = id then (0 : Int) else 0) = s by split <;> omega]
        exact H

/-- Nobody's number is above the eight. -/
theorem ids_work {n : Bn} {cr gr tk : Int} {k : Wk} {ws : Bool} (G : Good n cr gr tk) (hk : k.Ok) (B : Int) (hB : 8 ≤ B) (h : ∀ e ∈ n.st.es, e.id < B) : ∀ e ∈ (workB n cr gr tk ws k).st.es, e.id < B := by
  have hkw := hk.who
  have hid8 : 0 ≤ k.id ∧ k.id < 8 := by unfold Wk.id; omega
  obtain ⟨st, own⟩ := n
  simp only at *
  unfold workB
  split
  · split
    · rename_i hnm
      intro e he
      have he : e ∈ (dropS st k.id).es := he
      rw [show dropS st k.id = Queue.rise { st with es := Queue.drop st.es k.id, cur := if st.cur = k.id then -1 else st.cur } from if_pos hnm, rise_es] at he
      exact h e (mem_drop.1 he).1
    · intro e he
      have he : e ∈ (putS st { (own[k.id.toNat]?.getD Ent.zero) with v := Renorm.wake (own[k.id.toNat]?.getD Ent.zero).v st.min cr }).es := he
      unfold putS at he
      split at he
      · rw [rise_es] at he
        rcases mem_insE.1 he with rfl | he
        · obtain ⟨eo, ho⟩ : ∃ eo, own[k.id.toNat]? = some eo := ⟨_, List.getElem?_eq_getElem (by have : own.length = 8 := G.len; omega)⟩
          have := (G.own _ _ ho).1
          simp only [ho, Option.getD_some]; omega
        · exact h e he
      · exact h e he
  · split
    · intro e he
      have he : e ∈ (weighS st k.id (heavyOf k.weight)).es := he
      unfold weighS at he
      split at he
      · rename_i hz
        have hnm : named st.es k.id = true := by
          unfold errWeigh at hz
          cases hh : named st.es k.id
          · rw [hh] at hz; simp at hz
          · rfl
        obtain ⟨f1, f2⟩ := find_of hnm
        rw [rise_es] at he
        rcases setE_mem he with rfl | he
        · show (find st.es k.id).id < B; omega
        · exact h e he
      · exact h e he
    · have e1 : (runS st gr k.yields).es = st.es := by unfold runS; split <;> rfl
      split
      · rename_i hz
        have hz : errCharge (runS st gr k.yields) (k.ns % (tk + 1)) = 0 := hz
        intro e he
        have he : e ∈ (chargeS (runS st gr k.yields) (k.ns % (tk + 1))).es := he
        have hnm : named (runS st gr k.yields).es (runS st gr k.yields).cur = true := by
          unfold errCharge at hz
          cases hh : named (runS st gr k.yields).es (runS st gr k.yields).cur
          · rw [hh] at hz; simp at hz
          · rfl
        obtain ⟨f1, f2⟩ := find_of hnm
        unfold chargeS at he
        rw [if_pos hz, rise_es] at he
        rcases mem_insE.1 he with rfl | he
        · exact (show (find (runS st gr k.yields).es (runS st gr k.yields).cur).id < B from h _ (by rw [← e1]; exact f1))
        · exact h e (by rw [← e1]; exact (mem_drop.1 he).1)
      · intro e he
        exact h e (by rw [← e1]; exact he)
end Go.Proofs.Ytfddefenmlcecaa.Queue

/- Two that are put into a bench's queue beside the eight: they are taken, and stay near. Conditions: as each fact states them. -/
namespace Go.Proofs.Ytfddefenmlcecaa.Queue
open Tree
set_option linter.unusedVariables false
set_option linter.unusedSimpArgs false

/-- Entities of unlike numbers below B are at most B. -/
theorem few_ids : ∀ (B : Nat) (es : List Ent), Once es → (∀ e ∈ es, 0 ≤ e.id ∧ e.id < B) → es.length ≤ B
  | 0, es, _, h => by
    cases es with
    | nil => exact Nat.le_refl _
    | cons e l => have := h e (by simp); omega
  | B + 1, es, ho, h => by
    cases hn : named es (B : Int) with
    | true =>
      have hl := len_drop ho hn
      have := few_ids B (drop es B) (once_drop ho _) (fun e he => by
        obtain ⟨h1, h2⟩ := mem_drop.1 he
        have := h e h1
        omega)
      omega
    | false =>
      have := few_ids B es ho (fun e he => by
        have h1 := h e he
        have h2 : e.id ≠ (B : Int) := fun h3 => by
          have : named es (B : Int) = true := List.any_eq_true.2 ⟨e, he, by simp [h3]⟩
          rw [hn] at this; cases this
        omega)
      omega
theorem cerr_none {x : Int} (h1 : 64 ≤ x) (h2 : x ≤ 4095) : Vrun.cerr x 0 0 = 0 := by
  unfold Vrun.cerr
  repeat' split
  all_goals first | rfl | (exfalso; omega)
theorem not_named {es : List Ent} {id : Int} (h : ∀ e ∈ es, e.id < id) : named es id = false := by
  cases hn : named es id
  · rfl
  · obtain ⟨f1, f2⟩ := find_of hn
    have := h _ f1
    omega
theorem Bnear.put {n : Bn} {cr gr tk N id x : Int} (h : Bnear n cr gr tk N) (T : Terms cr gr tk) (N0 : 0 ≤ N) (N1 : N ≤ 1000) (i0 : 8 ≤ id) (i1 : id ≤ 100) (hids : ∀ e ∈ n.st.es, e.id < id) (x0 : 64 ≤ x) (x1 : x ≤ 4095) (v : Int) (v0 : n.st.min - cr ≤ v) (v1 : v ≤ n.st.min + gr + mostOf tk) :
    errPut n.st.es ⟨id, x, v, 0⟩ = 0 ∧ Bnear ⟨putS n.st ⟨id, x, v, 0⟩, n.own⟩ cr gr tk (N + 1) ∧ Stays (putS n.st ⟨id, x, v, 0⟩) id x v 0 ∧ (∀ e ∈ (putS n.st ⟨id, x, v, 0⟩).es, e.id < id + 1) ∧ (putS n.st ⟨id, x, v, 0⟩).es = insE ⟨id, x, v, 0⟩ n.st.es := by
  obtain ⟨G, Hn, Ho, m0, mN⟩ := h
  have hmo := T.most
  have g0 := T.g0
  have g1 := T.g1
  have c0 := T.c0
  have c1 := T.c1
  have hNM : N * (gr + mostOf tk) ≤ 1000 * (gr + mostOf tk) := Int.mul_le_mul_of_nonneg_right N1 (by omega)
  have hN' : (N + 1) * (gr + mostOf tk) = N * (gr + mostOf tk) + (gr + mostOf tk) := by rw [Int.add_mul, Int.one_mul]
  obtain ⟨st, own⟩ := n
  simp only at *
  have hnn := not_named hids
  have hlen : st.es.length ≤ 100 := few_ids 100 st.es G.sound.once (fun e he => by have := G.sound.each e he; have := hids e he; omega)
  have hz : errPut st.es ⟨id, x, v, 0⟩ = 0 := by
    unfold errPut
    simp only
    rw [if_neg (by omega), if_neg (by rw [cerr_none x0 x1]; simp), hnn, if_neg (by simp), if_neg (by omega)]
  have e0 : putS st ⟨id, x, v, 0⟩ = rise { st with es := insE ⟨id, x, v, 0⟩ st.es } := if_pos hz
  have hl : Lie (insE ⟨id, x, v, 0⟩ st.es) st.min cr gr (mostOf tk) := Hn.lie.ins (by exact hnn) (by exact v0) (by exact v1)
  obtain ⟨r1, r2, r3⟩ := Lie.rise (st := { st with es := insE ⟨id, x, v, 0⟩ st.es }) hl c0 (by omega)
  have S : Sound (putS st ⟨id, x, v, 0⟩) := G.sound.put (e := ⟨id, x, v, 0⟩) (by simp only; unfold I64; omega) (by simp only; unfold I64; omega) (by simp)
  have ee : (putS st ⟨id, x, v, 0⟩).es = insE ⟨id, x, v, 0⟩ st.es := by rw [e0, rise_es]
  have hm : st.min ≤ (putS st ⟨id, x, v, 0⟩).min ∧ (putS st ⟨id, x, v, 0⟩).min ≤ st.min + gr + mostOf tk := by rw [e0]; exact ⟨r2, r3⟩
  refine ⟨hz, ⟨⟨S, by show (putS st ⟨id, x, v, 0⟩).flag = false; rw [e0, rise_flag]; exact G.flag, fun e he => ?_, G.own, G.len⟩, by show Near (putS st ⟨id, x, v, 0⟩) cr gr (mostOf tk); rw [e0]; exact r1, fun i e he => ?_, ?_, ?_⟩, ?_, fun e he => ?_, ee⟩
  · have he : e ∈ (putS st ⟨id, x, v, 0⟩).es := he
    rw [ee] at he
    rcases mem_insE.1 he with rfl | he
    · exact ⟨x0, x1⟩
    · exact G.heavy e he
  · have := Ho i e he
    show e.v ≤ (putS st ⟨id, x, v, 0⟩).min + gr + mostOf tk
    omega
  · show 0 ≤ (putS st ⟨id, x, v, 0⟩).min
    omega
  · show (putS st ⟨id, x, v, 0⟩).min ≤ _
    omega
  · exact ⟨⟨id, x, v, 0⟩, by rw [ee]; exact mem_insE.2 (.inl rfl), rfl, rfl, by simp, by simp⟩
  · rw [ee] at he
    rcases mem_insE.1 he with rfl | he
    · show id < id + 1; omega
    · have := hids e he; omega
/-- Two that stood at v0 are never further apart than the credit, the granularity and one charge. -/
theorem Near.apart {st : St} {cr gr M a b x y v0 s t : Int} (h : Near st cr gr M) (ha : Stays st a x v0 s) (hb : Stays st b y v0 t) : 1024 * s / x - 1024 * t / y ≤ cr + gr + M ∧ 1024 * t / y - 1024 * s / x ≤ cr + gr + M := by
  obtain ⟨e, he, _, _, h1, _⟩ := ha
  obtain ⟨f, hf, _, _, h2, _⟩ := hb
  have a1 := h.lie.low e he
  have a2 := h.lie.high e he
  have b1 := h.lie.low f hf
  have b2 := h.lie.high f hf
  omega
end Go.Proofs.Ytfddefenmlcecaa.Queue

/- One that stands at the least vruntime and waits: whoever is served stood at most the granularity ahead of it. Conditions: as each fact states them. -/
namespace Go.Proofs.Ytfddefenmlcecaa.Queue
open Tree
set_option linter.unusedVariables false
set_option linter.unusedSimpArgs false

/-- The first other one is no further ahead than any other one. -/
theorem other_le {st : St} {cr gr M : Int} (h : Near st cr gr M) {o e : Ent} (ho : other st = some o) (he : e ∈ st.es) (hne : e.id ≠ st.cur) : o.v ≤ e.v := by
  have hm : e ∈ Queue.drop st.es st.cur := mem_drop.2 ⟨he, hne⟩
  unfold other at ho
  cases hd : Queue.drop st.es st.cur with
  | nil => rw [hd] at hm; cases hm
  | cons a l =>
    rw [hd] at ho hm
    simp at ho
    subst ho
    have hs := (h.lie.drop st.cur).sorted
    rw [hd] at hs
    exact head_le hs e hm
theorem other_some {st : St} {e : Ent} (he : e ∈ st.es) (hne : e.id ≠ st.cur) : ∃ o, other st = some o := by
  have hm : e ∈ Queue.drop st.es st.cur := mem_drop.2 ⟨he, hne⟩
  unfold other
  cases hd : Queue.drop st.es st.cur with
  | nil => rw [hd] at hm; cases hm
  | cons a l => exact ⟨a, rfl⟩
theorem chosen_wait {st : St} {cr gr tk M : Int} (T : Terms cr gr tk) (ho : Once st.es) (h : Near st cr gr M) (hm : 0 ≤ st.min) (hM : st.min + gr + M ≤ 4611686018427387904) {x y : Ent} (hx : x ∈ st.es) (hy : y ∈ st.es) (hid : x.id = chosen st gr) : x.v ≤ y.v + gr := by
  have g0 := T.g0
  have g1 := T.g1
  have c1 := T.c1
  have B : ∀ y ∈ st.es, -65535 ≤ y.v ∧ y.v ≤ 4611686018427387904 := fun y hy => by
    have h1 := h.lie.low y hy; have h2 := h.lie.high y hy; omega
  unfold chosen at hid
  split at hid
  · rename_i hst
    unfold stays at hst
    rw [Bool.and_eq_true] at hst
    obtain ⟨f1, f2⟩ := find_of hst.1
    have hxf : x = find st.es st.cur := once_eq ho hx f1 hid
    by_cases hc : y.id = st.cur
    · have : x = y := once_eq ho hx hy (by rw [hid, f2, hc])
      subst this; omega
    · obtain ⟨o, hoo⟩ := other_some hy hc
      have h1 := other_le h hoo hy hc
      rw [hoo] at hst
      have h2 : (find st.es st.cur).v ≤ reach o.v gr := by simpa using hst.2
      obtain ⟨om, _⟩ := other_mem hoo
      rw [reach_in g0 g1 (B o om).1 (B o om).2, ← hxf] at h2
      omega
  · rename_i hst
    by_cases hc : y.id = st.cur
    · split at hid
      · rename_i hoo
        have := other_none ho hoo hx
        have h1 : x = y := once_eq ho hx hy (by rw [this, hc])
        subst h1; omega
      · rename_i o hoo
        obtain ⟨om, hne⟩ := other_mem hoo
        have hxo : x = o := once_eq ho hx om hid
        subst hxo
        have hn : named st.es st.cur = true := List.any_eq_true.2 ⟨y, hy, by simp [hc]⟩
        obtain ⟨f1, f2⟩ := find_of hn
        have hef : find st.es st.cur = y := once_eq ho f1 hy (by rw [f2, hc])
        have h2 : ¬ y.v ≤ reach x.v gr := fun h2 => hst (by unfold stays; rw [hn, hoo, hef]; simpa using h2)
        rw [reach_in g0 g1 (B x om).1 (B x om).2] at h2
        omega
    · obtain ⟨o, hoo⟩ := other_some hy hc
      have h1 := other_le h hoo hy hc
      rw [hoo] at hid
      simp only at hid
      obtain ⟨om, hne⟩ := other_mem hoo
      have hxo : x = o := once_eq ho hx om hid
      subst hxo; omega
theorem yielded_wait {st : St} {cr gr tk M : Int} (T : Terms cr gr tk) (ho : Once st.es) (h : Near st cr gr M) (hm : 0 ≤ st.min) (hM : st.min + gr + M ≤ 4611686018427387904) {x y : Ent} (hx : x ∈ st.es) (hy : y ∈ st.es) (hid : x.id = yielded st gr) : x.v ≤ y.v + gr := by
  have g0 := T.g0
  have g1 := T.g1
  have c1 := T.c1
  have B : ∀ y ∈ st.es, -65535 ≤ y.v ∧ y.v ≤ 4611686018427387904 := fun y hy => by
    have h1 := h.lie.low y hy; have h2 := h.lie.high y hy; omega
  unfold yielded at hid
  split at hid
  · rename_i hgo
    unfold goes at hgo
    rw [Bool.and_eq_true] at hgo
    cases hoo : other st with
    | none => rw [hoo] at hgo; simp at hgo
    | some o =>
      rw [hoo] at hgo hid
      simp only at hid
      obtain ⟨om, hne⟩ := other_mem hoo
      have hxo : x = o := once_eq ho hx om hid
      subst hxo
      by_cases hc : y.id = st.cur
      · obtain ⟨f1, f2⟩ := find_of hgo.1
        have hef : find st.es st.cur = y := once_eq ho f1 hy (by rw [f2, hc])
        have h2 : x.v ≤ reach (find st.es st.cur).v gr := by simpa using hgo.2
        rw [hef, reach_in g0 g1 (B y hy).1 (B y hy).2] at h2
        omega
      · have := other_le h hoo hy hc
        omega
  · exact chosen_wait T ho h hm hM hx hy hid

/-- By how much one is ahead of b, at least 0; times its weight, with what is left over. -/
def lead (e : Ent) (b : Int) : Int := e.wt * max 0 (e.v - b) + e.rm
theorem lead_up {e : Ent} {b v : Int} (hw : 0 ≤ e.wt) (hv : e.v ≤ v) : lead e b ≤ lead { e with v := v } b := by
  unfold lead
  have := Int.mul_le_mul_of_nonneg_left (show max 0 (e.v - b) ≤ max 0 (v - b) by omega) hw
  simp only; omega
structure Waits (n : Bn) (m0 cr : Int) (sv : Nat → Int) : Prop where
  stand : ∃ e ∈ n.st.es, e.id = 8 ∧ e.v = m0
  m : m0 ≤ n.st.min
  es : ∀ e ∈ n.st.es, e.id < 8 → 1024 * sv e.id.toNat ≤ lead e (m0 - cr)
  own : ∀ (i : Nat) (e : Ent), n.own[i]? = some e → named n.st.es i = false → 1024 * sv i ≤ lead e (m0 - cr)
theorem named_off {es : List Ent} {i j : Int} (h : named (Queue.drop es j) i = false) (hne : i ≠ j) : named es i = false := by
  cases hn : named es i
  · rfl
  · obtain ⟨f1, f2⟩ := find_of hn
    have : named (Queue.drop es j) i = true := List.any_eq_true.2 ⟨find es i, mem_drop.2 ⟨f1, by omega⟩, by simp [f2]⟩
    rw [h] at this; cases this
theorem named_laid {es : List Ent} {i : Int} {d : Ent} (h : named (insE d es) i = false) : named es i = false ∧ i ≠ d.id := by
  constructor
  · cases hn : named es i
    · rfl
    · obtain ⟨f1, f2⟩ := find_of hn
      have : named (insE d es) i = true := List.any_eq_true.2 ⟨find es i, mem_insE.2 (.inr f1), by simp [f2]⟩
      rw [h] at this; cases this
  · rintro rfl
    have : named (insE d es) d.id = true := List.any_eq_true.2 ⟨d, mem_insE.2 (.inl rfl), by simp⟩
    rw [h] at this; cases this

theorem pickS_es (st : St) (g : Int) : (pickS st g).es = st.es ∧ (pickS st g).min = st.min := ⟨rfl, rfl⟩
theorem runS_is (st : St) (g : Int) (y : Bool) : (runS st g y).es = st.es ∧ (runS st g y).min = st.min := by unfold runS; split <;> exact ⟨rfl, rfl⟩
/-- What one stood ahead of, before its last charge, bounds what it was served. -/
theorem room_of {wt L s ns g tk : Int} (w0 : 64 ≤ wt) (hL : 1024 * s ≤ wt * g + L) (hr : L < wt) (hns : ns ≤ tk) : s + ns ≤ (g + 1) * wt / 1024 + tk := by
  have e : (g + 1) * wt = wt * g + wt := by rw [Int.add_mul, Int.one_mul, Int.mul_comm]
  have h1 : s ≤ (g + 1) * wt / 1024 := by
    rw [Int.le_ediv_iff_mul_le (by omega), e]; omega
  omega

theorem Waits.work {n : Bn} {cr gr tk N m0 : Int} {sv : Nat → Int} {k : Wk} (h : Bnear n cr gr tk N) (T : Terms cr gr tk) (hk : k.Ok) (N0 : 0 ≤ N) (N1 : N ≤ 1000) (W : Waits n m0 cr sv) (hne : (workA n cr gr tk false k).1 ≠ 8) :
    Waits (workB n cr gr tk false k) m0 cr (fun i => sv i + if (workA n cr gr tk false k).1 = (i : Int) then (workA n cr gr tk false k).2 else 0) ∧
    (0 ≤ (workA n cr gr tk false k).1 → (workA n cr gr tk false k).1 < 8 → ∃ e ∈ (workB n cr gr tk false k).st.es, e.id = (workA n cr gr tk false k).1 ∧ sv (workA n cr gr tk false k).1.toNat + (workA n cr gr tk false k).2 ≤ (cr + gr + 1) * e.wt / 1024 + tk) := by
  obtain ⟨G, Hn, Ho, m00, mN⟩ := h
  have hmo := T.most
  have g0 := T.g0
  have g1 := T.g1
  have c0 := T.c0
  have c1 := T.c1
  have hkw := hk.who
  have hid8 : 0 ≤ k.id ∧ k.id < 8 := by unfold Wk.id; omega
  have hNM : N * (gr + mostOf tk) ≤ 1000 * (gr + mostOf tk) := Int.mul_le_mul_of_nonneg_right N1 (by omega)
  obtain ⟨⟨e8, s8, i8, v8⟩, Wm, We, Wo⟩ := W
  obtain ⟨st, own⟩ := n
  simp only at *
  unfold workA at hne ⊢
  unfold workB
  by_cases h0 : k.kind = 0
  · simp only [if_pos h0] at hne ⊢
    refine ⟨?_, fun h1 => by omega⟩
    have hsv : (fun i : Nat => sv i + if (-1 : Int) = (i : Int) then (0 : Int) else 0) = sv := by
      funext i; split <;> omega
    rw [hsv]
    split
    · rename_i hnm
      obtain ⟨f1, f2⟩ := find_of hnm
      have ed : (dropS st k.id).es = Queue.drop st.es k.id := by
        rw [show dropS st k.id = Queue.rise { st with es := Queue.drop st.es k.id, cur := if st.cur = k.id then -1 else st.cur } from if_pos hnm, rise_es]
      have hmn : st.min ≤ (dropS st k.id).min := by
        rw [show dropS st k.id = Queue.rise { st with es := Queue.drop st.es k.id, cur := if st.cur = k.id then -1 else st.cur } from if_pos hnm]
        exact rise_min _
      refine ⟨⟨e8, ?_, i8, v8⟩, ?_, fun e he hi => ?_, fun i e he hnn => ?_⟩
      · show e8 ∈ (dropS st k.id).es
        rw [ed]; exact mem_drop.2 ⟨s8, by omega⟩
      · show m0 ≤ (dropS st k.id).min
        omega
      · have he : e ∈ (dropS st k.id).es := he
        rw [ed] at he
        exact We e (mem_drop.1 he).1 hi
      · have hnn : named (dropS st k.id).es i = false := hnn
        rw [ed] at hnn
        simp only at he
        by_cases hi : i = k.id.toNat
        · subst hi
          rw [List.getElem?_set_self (by have : own.length = 8 := G.len; omega)] at he
          cases he
          have := We _ f1 (by omega)
          rwa [f2] at this
        · rw [List.getElem?_set_ne (fun e => hi e.symm)] at he
          exact Wo i e he (named_off hnn (by omega))
    · rename_i hnm
      have hnm : named st.es k.id = false := by simpa using hnm
      obtain ⟨eo, ho⟩ : ∃ eo, own[k.id.toNat]? = some eo := ⟨_, List.getElem?_eq_getElem (by have : own.length = 8 := G.len; omega)⟩
      obtain ⟨o1, o2, o3, o4, o5, o6⟩ := G.own _ _ ho
      rw [ho, Option.getD_some]
      have ew : Renorm.wake eo.v st.min cr = max eo.v (st.min - cr) := wake_in c0 c1 m00 (by omega)
      have key : 1024 * sv k.id.toNat ≤ lead { eo with v := Renorm.wake eo.v st.min cr } (m0 - cr) := by
        have h1 := Wo _ _ ho (by rw [show ((k.id.toNat : Nat) : Int) = k.id by omega]; exact hnm)
        have h2 := lead_up (e := eo) (b := m0 - cr) (v := Renorm.wake eo.v st.min cr) (by omega) (by rw [ew]; omega)
        omega
      by_cases hz : errPut st.es { eo with v := Renorm.wake eo.v st.min cr } = 0
      · have ed : (putS st { eo with v := Renorm.wake eo.v st.min cr }).es = insE { eo with v := Renorm.wake eo.v st.min cr } st.es := by
          rw [show putS st { eo with v := Renorm.wake eo.v st.min cr } = Queue.rise { st with es := insE { eo with v := Renorm.wake eo.v st.min cr } st.es } from if_pos hz, rise_es]
        have hmn : st.min ≤ (putS st { eo with v := Renorm.wake eo.v st.min cr }).min := by
          rw [show putS st { eo with v := Renorm.wake eo.v st.min cr } = Queue.rise { st with es := insE { eo with v := Renorm.wake eo.v st.min cr } st.es } from if_pos hz]
          exact rise_min _
        refine ⟨⟨e8, ?_, i8, v8⟩, ?_, fun e he hi => ?_, fun i e he hnn => ?_⟩
        · show e8 ∈ (putS st _).es
          rw [ed]; exact mem_insE.2 (.inr s8)
        · show m0 ≤ (putS st _).min
          omega
        · have he : e ∈ (putS st { eo with v := Renorm.wake eo.v st.min cr }).es := he
          rw [ed] at he
          rcases mem_insE.1 he with rfl | he
          · show 1024 * sv eo.id.toNat ≤ _
            rw [show eo.id.toNat = k.id.toNat by rw [o1]; omega]
            exact key
          · exact We e he hi
        · have hnn : named (putS st { eo with v := Renorm.wake eo.v st.min cr }).es i = false := hnn
          rw [ed] at hnn
          exact Wo i e he (named_laid hnn).1
      · have ed : putS st { eo with v := Renorm.wake eo.v st.min cr } = st := if_neg hz
        rw [ed]
        exact ⟨⟨e8, s8, i8, v8⟩, Wm, We, Wo⟩
  · have h1 : ¬ (k.kind = 1 ∧ false = true) := by simp
    simp only [if_neg h0, if_neg h1] at hne ⊢
    obtain ⟨r1, r2⟩ := runS_is st gr k.yields
    have hbig : st.min + gr + mostOf tk ≤ 4611686018427387904 := by omega
    have hwho : ∀ x ∈ st.es, x.id = (runS st gr k.yields).cur → x.v ≤ m0 + gr := fun x hx hid => by
      rw [← v8]
      unfold runS at hid
      split at hid
      · exact yielded_wait (st := pickS st gr) T G.sound.once (Hn.cur _) m00 hbig hx s8 hid
      · exact chosen_wait T G.sound.once Hn m00 hbig hx s8 hid
    have S1 : Sound (runS st gr k.yields) := by
      unfold runS; split
      · exact yield_sound (pick_sound G.sound gr) gr
      · exact pick_sound G.sound gr
    generalize runS st gr k.yields = sr at *
    have hns : 0 ≤ k.ns % (tk + 1) := Int.emod_nonneg k.ns (by have := T.t0; omega)
    have hns2 : k.ns % (tk + 1) ≤ tk := by have := T.t0; have := Int.emod_lt_of_pos k.ns (show 0 < tk + 1 by omega); omega
    by_cases hz : errCharge sr (k.ns % (tk + 1)) = 0
    · simp only [if_pos hz] at hne ⊢
      have hnm : named sr.es sr.cur = true := by
        unfold errCharge at hz
        cases hh : named sr.es sr.cur
        · rw [hh] at hz; simp at hz
        · rfl
      have hce : Vrun.cerr (find sr.es sr.cur).wt (find sr.es sr.cur).rm (k.ns % (tk + 1)) = 0 := by unfold errCharge at hz; rw [hnm] at hz; simpa using hz
      obtain ⟨f1, f2⟩ := find_of hnm
      have hse := S1.each _ f1
      obtain ⟨s1, s2, s3, s4, s5, s6, s7⟩ := served_ok (e := find sr.es sr.cur) hns hse.2.2.1 hse.2.2.2.1 hse.2.2.2.2.1 hse.2.2.2.2.2.1 hce
      generalize hfe : find sr.es sr.cur = fe at *
      have hfm : fe ∈ st.es := by rw [← r1]; exact f1
      have hw := G.heavy fe hfm
      obtain ⟨c0', c1'⟩ := charge_most hse.2.2.2.2.1 hse.2.2.2.2.2.1 hw.1 hns hns2
      have l1 := Hn.lie.low fe hfm
      have l2 := Hn.lie.high fe hfm
      have hv := hwho fe hfm f2
      have hsv : (served fe (k.ns % (tk + 1))).v = fe.v + (fe.rm + 1024 * (k.ns % (tk + 1))) / fe.wt := by
        show Fix.ends (fe.v + Vrun.cval fe.wt fe.rm (k.ns % (tk + 1))) = _
        rw [s6, ends_in (by omega) (by omega)]
      have hdm := Int.emod_add_mul_ediv (fe.rm + 1024 * (k.ns % (tk + 1))) fe.wt
      have ed : (chargeS sr (k.ns % (tk + 1))).es = insE (served fe (k.ns % (tk + 1))) (Queue.drop sr.es sr.cur) := by
        rw [show chargeS sr (k.ns % (tk + 1)) = Queue.rise { sr with es := insE (served (find sr.es sr.cur) (k.ns % (tk + 1))) (Queue.drop sr.es sr.cur), flag := sr.flag || over (find sr.es sr.cur) (k.ns % (tk + 1)) } from if_pos hz, rise_es, hfe]
      have hmn : sr.min ≤ (chargeS sr (k.ns % (tk + 1))).min := by
        rw [show chargeS sr (k.ns % (tk + 1)) = Queue.rise { sr with es := insE (served (find sr.es sr.cur) (k.ns % (tk + 1))) (Queue.drop sr.es sr.cur), flag := sr.flag || over (find sr.es sr.cur) (k.ns % (tk + 1)) } from if_pos hz]
        exact rise_min _
      generalize k.ns % (tk + 1) = ns at *
      have e1 : max 0 (fe.v - (m0 - cr)) = fe.v - (m0 - cr) := by omega
      refine ⟨⟨⟨e8, ?_, i8, v8⟩, ?_, fun e he hi => ?_, fun i e he hnn => ?_⟩, fun q0 q8 => ⟨served fe ns, ?_, by rw [s1]; exact f2, ?_⟩⟩
      · show e8 ∈ (chargeS sr ns).es
        rw [ed]; exact mem_insE.2 (.inr (mem_drop.2 ⟨by rw [r1]; exact s8, by omega⟩))
      · show m0 ≤ (chargeS sr ns).min
        omega
      · have he : e ∈ (chargeS sr ns).es := he
        rw [ed] at he
        rcases mem_insE.1 he with rfl | he
        · have h3 := We fe hfm (by rw [← s1]; exact hi)
          have hi0 := hse.1
          rw [show (served fe ns).id.toNat = fe.id.toNat by rw [s1], if_pos (by rw [← f2]; omega)]
          unfold lead at h3 ⊢
          rw [s2, s7, hsv, show max 0 (fe.v + (fe.rm + 1024 * ns) / fe.wt - (m0 - cr)) = (fe.v - (m0 - cr)) + (fe.rm + 1024 * ns) / fe.wt by omega]
          rw [e1] at h3
          have hm := Int.mul_add fe.wt (fe.v - (m0 - cr)) ((fe.rm + 1024 * ns) / fe.wt)
          omega
        · obtain ⟨h4, h5⟩ := mem_drop.1 he
          have h6 := (S1.each e h4).1
          rw [if_neg (by omega), Int.add_zero]
          exact We e (by rw [← r1]; exact h4) hi
      · have hnn : named (chargeS sr ns).es i = false := hnn
        rw [ed] at hnn
        obtain ⟨h4, h5⟩ := named_laid hnn
        rw [s1, f2] at h5
        rw [if_neg (by omega), Int.add_zero]
        have := named_off h4 h5
        rw [r1] at this
        exact Wo i e he this
      · show served fe ns ∈ (chargeS sr ns).es
        rw [ed]; exact mem_insE.2 (.inl rfl)
      · rw [s2]
        have h3 := We fe hfm (by omega)
        rw [f2] at h3
        unfold lead at h3
        rw [e1] at h3
        have h4 : fe.wt * (fe.v - (m0 - cr)) ≤ fe.wt * (cr + gr) := Int.mul_le_mul_of_nonneg_left (by omega) (by omega)
        exact room_of hw.1 (L := fe.rm) (by omega) hse.2.2.2.2.2.1 hns2
    · simp only [if_neg hz] at hne ⊢
      refine ⟨?_, fun h1 => by omega⟩
      have hsv : (fun i : Nat => sv i + if (-1 : Int) = (i : Int) then (0 : Int) else 0) = sv := by
        funext i; split <;> omega
      rw [hsv]
      exact ⟨⟨e8, by rw [r1]; exact s8, i8, v8⟩, by rw [r2]; exact Wm, fun e he hi => We e (by rw [← r1]; exact he) hi, fun i e he hnn => Wo i e he (by rw [← r1]; exact hnn)⟩
end Go.Proofs.Ytfddefenmlcecaa.Queue

/- Rows in memory, held apart from other blocks; what is in a set of blocks is as it was. Conditions: none. -/
namespace Go.Proofs.Ytfddefenmlcecaa.Mem
open Go.ChangeShapes Go.WideShapes Go.ChangeAt Go.RowKit
set_option linter.unusedVariables false
set_option linter.unusedSimpArgs false

/-- A row in memory that lies in no block of O. -/
def Row (w : World) (O : Nat → Prop) (e : TypeId) (size : Nat) (v : Value) (n : Nat) (xs : List Value) : Prop := w.ownsRow 0 e size v n xs ∧ ∀ k, v.ownBlock = some k → ¬ O k
/-- What is in the blocks of O is as it was. -/
structure Same (O : Nat → Prop) (w w' : World) : Prop where
  os : w'.os = w.os
  tape : w'.tape = w.tape
  output : w'.output = w.output
  size : w.heap.size ≤ w'.heap.size
  block : ∀ k, O k → w'.heap[k]? = w.heap[k]?

theorem Same.refl (O : Nat → Prop) (w : World) : Same O w w := ⟨rfl, rfl, rfl, Nat.le_refl _, fun _ _ => rfl⟩
theorem Same.trans {O : Nat → Prop} {a b c : World} (h : Same O a b) (k : Same O b c) : Same O a c :=
  ⟨k.os.trans h.os, k.tape.trans h.tape, k.output.trans h.output, Nat.le_trans h.size k.size, fun i hi => (k.block i hi).trans (h.block i hi)⟩
theorem Same.mono {O O' : Nat → Prop} {a b : World} (h : Same O a b) (k : ∀ i, O' i → O i) : Same O' a b := ⟨h.os, h.tape, h.output, h.size, fun i hi => h.block i (k i hi)⟩
theorem Same.of {O : Nat → Prop} {a b : World} (h : Below a.heap.size a b) (k : ∀ i, O i → i < a.heap.size) : Same O a b := ⟨h.os, h.tape, h.output, h.size, fun i hi => h.block i (k i hi)⟩
theorem Same.below {a b : World} {B : Nat} (h : Same (· < B) a b) : Below B a b := ⟨h.os, h.tape, h.output, h.size, h.block⟩
theorem Same.grown {O : Nat → Prop} {a w w' : World} {row : Option Nat} (h : Same O a w) (hg : w.grownBy w' row) (hB : ∀ k, O k → k < w.heap.size) (hr : ∀ k, row = some k → ¬ O k) : Same O a w' :=
  h.trans ⟨hg.os, hg.tape, hg.output, hg.size, fun k hk => hg.block k (hB k hk) (fun e => hr k e.symm hk)⟩
theorem Same.setCell {O : Nat → Prop} {a w : World} (h : Same O a w) {p : Addr} (hp : ¬ O p.block) (u : Value) : Same O a (w.setCell p u) :=
  h.trans ⟨rfl, rfl, rfl, by simp [World.setCell], fun k hk => Below.heap_setCell _ _ _ _ (fun e => hp (e ▸ hk))⟩
theorem Same.drew {O : Nat → Prop} {a w : World} (h : Same O a w) : Same O a w.drew := ⟨h.os, h.tape, h.output, h.size, h.block⟩
theorem Same.drewN {O : Nat → Prop} {a w : World} (h : Same O a w) (n : Nat) : Same O a (w.drewN n) := ⟨h.os, h.tape, h.output, h.size, h.block⟩
theorem Same.alloc {O : Nat → Prop} {a w : World} (h : Same O a w) (hB : ∀ k, O k → k < w.heap.size) (o : Obj) : Same O a (w.alloc o) :=
  h.trans ⟨rfl, rfl, rfl, by simp, fun k hk => Below.heap_alloc _ _ _ (hB k hk)⟩

theorem fresh_trans {a b c : World} (h : Below a.heap.size a b) (k : Below b.heap.size b c) : Below a.heap.size a c := h.trans (k.mono h.size)
theorem drawn (w : World) (n : Nat) : Below w.heap.size w (w.drewN n) := ⟨rfl, rfl, rfl, Nat.le_refl _, fun _ _ => rfl⟩
theorem lt_of {w : World} {k : Nat} {o : Obj} (h : w.heap[k]? = some o) : k < w.heap.size := (Array.getElem?_eq_some_iff.1 h).1
theorem alloc1 (w : World) (o : Obj) : Below w.heap.size w (w.alloc o) := (Below.refl _ w).alloc (Nat.le_refl _) o
theorem cell_alloc {w : World} {a : Addr} {v : Value} (h : w.cell? a = some v) (o : Obj) : (w.alloc o).cell? a = some v :=
  (World.cell?_of_block (Below.heap_alloc w o a.block (World.block_lt_of_cell? w a h))).trans h
theorem cell_fresh {w w' : World} {a : Addr} {v : Value} (h : w.cell? a = some v) (hg : Below w.heap.size w w') : w'.cell? a = some v := (hg.cell (World.block_lt_of_cell? w a h)).trans h
theorem info_parts {o : Option TypeInfo} {z : Option Value} {s b : Nat} (h : o.map (fun i => (i.zero, i.size, i.bytes)) = some (z, s, b)) : ∃ i, o = some i ∧ i.zero = z ∧ i.size = s ∧ i.bytes = b := by
  cases o with
  | none => simp at h
  | some i => simp at h; exact ⟨i, rfl, h.1, h.2.1, h.2.2⟩
theorem add_at (b o j : Nat) : (⟨b, o, none⟩ : Addr).add j = ⟨b, o + j, none⟩ := by unfold Addr.add; split <;> simp_all

section
variable {w w' : World} {O : Nat → Prop} {e : TypeId} {size : Nat} {v : Value} {n : Nat} {xs : List Value}
theorem Row.lt (h : Row w O e size v n xs) {k : Nat} (hk : v.ownBlock = some k) : k < w.heap.size := (h.1.lt k hk).2
theorem Row.on (h : Row w O e size v n xs) (hb : ∀ k, v.ownBlock = some k → w'.heap[k]? = w.heap[k]?) : Row w' O e size v n xs := by
  refine ⟨⟨h.1.1, ?_⟩, h.2⟩
  rcases h.1.2 with h1 | ⟨g, cap, cur, rfl, h0, hg, h1⟩
  · exact .inl h1
  · exact .inr ⟨g, cap, cur, rfl, h0, by rw [hb g rfl, hg], h1⟩
theorem Row.fresh (h : Row w O e size v n xs) (hb : Below w.heap.size w w') : Row w' O e size v n xs := h.on fun k hk => hb.block k (h.lt hk)
theorem Row.other (h : Row w O e size v n xs) {O' : Nat → Prop} (hb : ∀ k, v.ownBlock = some k → ¬ O' k) : Row w O' e size v n xs := ⟨h.1, hb⟩
theorem own_ne {B : Nat} (h : w.ownsRow B e size v n xs) {b : Nat} {cur : Array Value} {t : TypeId} {f : Nat × Nat} (hb : w.heap[b]? = some (.cells cur t f)) (hne : e ≠ t) : v.ownBlock ≠ some b := by
  intro hk
  rcases h.2 with ⟨rfl, _⟩ | ⟨g, cap, cur', rfl, _, hh, _⟩
  · cases hk
  · simp [Value.ownBlock] at hk
    subst hk
    rw [hh] at hb
    simp at hb
    exact hne hb.2.1
theorem owns_fresh {B : Nat} (h : w.ownsRow B e size v n xs) (hB : Below w.heap.size w w') : w'.ownsRow B e size v n xs := by
  refine ⟨h.1, ?_⟩
  rcases h.2 with h1 | ⟨g, cap, cur, rfl, h0, hg, h1⟩
  · exact .inl h1
  · exact .inr ⟨g, cap, cur, rfl, h0, by rw [hB.block g (lt_of hg), hg], h1⟩
theorem owns_lower {B B' : Nat} (h : w.ownsRow B e size v n xs) (hB : B' ≤ B) : w.ownsRow B' e size v n xs := by
  refine ⟨h.1, ?_⟩
  rcases h.2 with h1 | ⟨g, cap, cur, h1, h2, h3⟩
  · exact .inl h1
  · exact .inr ⟨g, cap, cur, h1, Nat.le_trans hB h2, h3⟩
theorem owns_same {B : Nat} (hown : w.ownsRow B e size v n xs) (hs : Same O w w') (hv : ∀ k, v.ownBlock = some k → O k) : w'.ownsRow B e size v n xs := by
  refine ⟨hown.1, ?_⟩
  rcases hown.2 with h1 | ⟨g, cap, cur, rfl, h0, hg, h1⟩
  · exact .inl h1
  · exact .inr ⟨g, cap, cur, rfl, h0, by rw [hs.block g (hv g rfl), hg], h1⟩
theorem owns_shape {B : Nat} (hown : w.ownsRow B e size v n xs) : ∃ ao cap, v = .slice ao n cap := by
  rcases hown.2 with ⟨rfl, rfl⟩ | ⟨g, cap, cur, rfl, _⟩
  · exact ⟨none, 0, rfl⟩
  · exact ⟨_, cap, rfl⟩
theorem row_cell {B : Nat} {x : Value} {k : Nat} (h : w.ownsRow B e 1 v n xs) (hk : xs[k]? = some x) :
    ∃ g c, v = .slice (some ⟨g, 0, none⟩) n c ∧ w.cell? ⟨g, k, none⟩ = some x ∧ w.frozen? ⟨g, k, none⟩ = false ∧ B ≤ g ∧ g < w.heap.size := by
  have hl := h.1
  have hk1 := (List.getElem?_eq_some_iff.1 hk).1
  obtain ⟨g, c, rfl, hb, hg⟩ := h.form (by omega)
  exact ⟨g, c, rfl, by rw [h.cellAt _ (by omega), hk], h.frozenAt _, hb, hg⟩
end

theorem one_grown (w : World) (b j : Nat) (x : Value) : w.grownBy (w.setCell ⟨b, j, none⟩ x) (some b) := ⟨rfl, rfl, rfl, by simp [World.setCell], fun k _ hk => Below.heap_setCell _ _ _ _ (fun e => hk (by simp [e]))⟩
theorem box_new {w2 : World} {b : Nat} {o o' : Obj} (h : w2.heap[b]? = some o) : (w2.alloc o').heap[b]? = some o := by
  rw [Below.heap_alloc _ _ _ (lt_of h)]; exact h
theorem box_fresh {w w' : World} {b : Nat} {o : Obj} (h : w.heap[b]? = some o) (hg : Below w.heap.size w w') : w'.heap[b]? = some o := (hg.block b (lt_of h)).trans h
theorem grown_alloc {a b : World} {o : Obj} {row : Option Nat} (hg : (a.alloc o).grownBy b row) : a.grownBy b row :=
  ⟨hg.os, hg.tape, hg.output, by have := hg.size; simp at this; omega, fun k hk hne => by rw [hg.block k (by simp; omega) hne, Below.heap_alloc _ _ _ hk]⟩
theorem box_kept {w w' : World} {b : Nat} {o : Obj} {row : Option Nat} (h : w.heap[b]? = some o) (hg : w.grownBy w' row) (hne : row ≠ some b) : w'.heap[b]? = some o := by
  rw [hg.block b (lt_of h) (fun e => hne e.symm)]; exact h
theorem kept_own {a b : World} {B : Nat} {e : TypeId} {n : Nat} {g c k : Nat} {xs : List Value} (h : a.ownsRow B e 1 (.slice (some ⟨g, 0, none⟩) n c) n xs) (hg : a.grownBy b (some k)) (hne : g ≠ k) : b.ownsRow B e 1 (.slice (some ⟨g, 0, none⟩) n c) n xs :=
  h.kept hg (.inr (by simpa [Value.ownBlock] using hne))
theorem made {W : World} {base : Nat} {e : TypeId} {g0 : Nat} (h : W.heap.size = g0) (hb : base ≤ g0) : (W.alloc (.cells #[] e)).ownsRow base e 1 (.slice (some ⟨g0, 0, none⟩) 0 0) 0 [] := by
  subst h
  exact World.ownsRow_made W #[] 0 hb (by simp [maxLen]) rfl
theorem set_block {w : World} {b : Nat} {c : Array Value} {t : TypeId} (hb : w.heap[b]? = some (.cells c t (0, 0))) (j : Nat) (u : Value) : (w.setCell ⟨b, j, none⟩ u).heap[b]? = some (.cells (c.setIfInBounds j u) t (0, 0)) :=
  heap_setCell_same w b j c t u hb
theorem blk_ne {w : World} {b b' : Nat} {cur cur' : Array Value} {t t' : TypeId} {f f' : Nat × Nat} (h : w.heap[b]? = some (.cells cur t f)) (h' : w.heap[b']? = some (.cells cur' t' f')) (hne : t ≠ t') : b ≠ b' := by
  intro e
  subst e
  rw [h] at h'
  simp at h'
  exact hne h'.2.1
theorem list_set_eq {l : List Value} {i : Nat} {v : Value} (h : l[i]? = some v) : l.set i v = l := by
  apply List.ext_getElem?
  intro j
  rw [List.getElem?_set]
  split
  · rename_i e; subst e; rw [if_pos (List.getElem?_eq_some_iff.1 h).1, h]
  · rfl
theorem five {w : World} {b : Nat} {a0 a1 a2 a3 a4 : Value} {t : TypeId} (hb : w.heap[b]? = some (.cells #[a0, a1, a2, a3, a4] t (0, 0))) :
    w.cell? ⟨b, 0, none⟩ = some a0 ∧ w.cell? ⟨b, 1, none⟩ = some a1 ∧ w.cell? ⟨b, 2, none⟩ = some a2 ∧ w.cell? ⟨b, 3, none⟩ = some a3 ∧ w.cell? ⟨b, 4, none⟩ = some a4 ∧ (∀ j, w.frozen? ⟨b, j, none⟩ = false) := by
  refine ⟨?_, ?_, ?_, ?_, ?_, fun j => frozen_of_row w b j _ _ hb⟩
  all_goals rw [cell_of_row w b _ _ _ _ hb]; rfl
theorem four {w : World} {b : Nat} {a0 a1 a2 a3 : Value} {t : TypeId} (hb : w.heap[b]? = some (.cells #[a0, a1, a2, a3] t (0, 0))) :
    w.cell? ⟨b, 0, none⟩ = some a0 ∧ w.cell? ⟨b, 1, none⟩ = some a1 ∧ w.cell? ⟨b, 2, none⟩ = some a2 ∧ w.cell? ⟨b, 3, none⟩ = some a3 ∧ (∀ j, w.frozen? ⟨b, j, none⟩ = false) := by
  refine ⟨?_, ?_, ?_, ?_, fun j => frozen_of_row w b j _ _ hb⟩
  all_goals rw [cell_of_row w b _ _ _ _ hb]; rfl
theorem three {w : World} {b : Nat} {a0 a1 a2 : Value} {t : TypeId} (hb : w.heap[b]? = some (.cells #[a0, a1, a2] t (0, 0))) :
    w.cell? ⟨b, 0, none⟩ = some a0 ∧ w.cell? ⟨b, 1, none⟩ = some a1 ∧ w.cell? ⟨b, 2, none⟩ = some a2 ∧ (∀ j, w.frozen? ⟨b, j, none⟩ = false) := by
  refine ⟨?_, ?_, ?_, fun j => frozen_of_row w b j _ _ hb⟩
  all_goals rw [cell_of_row w b _ _ _ _ hb]; rfl
theorem two {w : World} {b : Nat} {x y : Value} {t : TypeId} (hb : w.heap[b]? = some (.cells #[x, y] t (0, 0))) : w.cell? ⟨b, 0, none⟩ = some x ∧ w.cell? ⟨b, 1, none⟩ = some y ∧ (∀ j, w.frozen? ⟨b, j, none⟩ = false) := by
  refine ⟨?_, ?_, fun j => frozen_of_row w b j _ _ hb⟩
  all_goals rw [cell_of_row w b _ _ _ _ hb]; rfl

/-- O, and one block more. -/
def With (O : Nat → Prop) (k : Nat) : Nat → Prop := fun i => O i ∨ i = k
theorem Same.without {w w' : World} {k : Nat} {O : Nat → Prop} (h : Same (With O k) w w') : Same O w w' := h.mono fun _ => .inl
theorem with_alloc {w : World} {O : Nat → Prop} (hO : ∀ k, O k → k < w.heap.size) (o : Obj) : ∀ k, With O w.heap.size k → k < (w.alloc o).heap.size := by
  rintro k (hk | rfl)
  · have := hO k hk; simp; omega
  · simp

/-- A slice of the call's own, not nil, appended to from a row that lies in memory, nil or not. -/
theorem wpList_append_copy {P : Program} (w : World) {ops : Array Oper} {rest : List Oper} {o : Oper} {a : Act} {Q : Exit → Act → World → Prop} (hgd : o.guard = none) (s x : Operand) (t : TypeId)
    (ho : o.op = .call { callee := .builtin .append, args := #[s, x], argTypes := #[t, t] })
    (base : Nat) (e : TypeId) (i : TypeInfo) (z : Value) (size bytes : Nat) (ht : P.underlying t = some (.slice e)) (hi : P.info? e = some i) (hz : i.zero = some z)
    (hsize : i.size = size) (hby : i.bytes = bytes) (hzs : z.cells.size = size) (hsz : 0 < size)
    (g0 n c0 : Nat) (xs : List Value) (hs : a.eval s = .slice (some ⟨g0, 0, none⟩) n c0) (hown : w.ownsRow base e size (.slice (some ⟨g0, 0, none⟩) n c0) n xs)
    (b2 : Nat) (u : Value) (m : Nat) (ys : List Value) (hx : a.eval x = u) (hu : w.ownsRow b2 e size u m ys) (h1 : ∀ y ∈ ys, y.oneCell' = true)
    (h63 : n + m ≤ maxLen) (hbytes : (n + m) * bytes ≤ 140737488355328) (hbase : base ≤ w.heap.size) (H : Nat) (hH : w.heap.size = H)
    (h : ∀ g cap w', w'.ownsRow base e size (.slice (some ⟨g, 0, none⟩) (n + m) cap) (n + m) (xs ++ ys) → w.grownBy w' (some g0) → (g = g0 ∨ g = H) → wpList P ops Q rest (a.put o.dst (.slice (some ⟨g, 0, none⟩) (n + m) cap)) w') :
    wpList P ops Q (o :: rest) a w := by
  rcases hu.2 with ⟨rfl, rfl⟩ | ⟨g, cap, cur, rfl, _, hg, _⟩
  · have hys : ys = [] := List.eq_nil_of_length_eq_zero (by simpa using hu.1)
    subst hys
    refine wpList_plain hgd fun K hK' => ?_
    have hrun := run_append_owned_none (P := P) w base t o.type e i size ht hi _ n xs hown
    unfold Oper.wp
    simp [execOp, ho, resolve, invoke, builtin, hs, hx, hrun, Result.andThen]
    exact hK' _ _ (by simpa using h g0 c0 w (by simpa using hown) (World.grownBy.refl _ _) (.inl rfl))
  · refine wpList_append_own_at w hgd s x t ho base e i z size bytes ht hi hz hsize hby hzs hsz _ n xs hs hown ⟨g, 0, none⟩ m cap ys hx hu.1 (hu.cells rfl) h1 h63 hbytes hbase ?_
    intro v' w' k1 k2 k3 k4
    rcases k1.2 with ⟨rfl, _⟩ | ⟨g', cap', cur', rfl, _⟩
    · have := k3.1 rfl
      simp at this
    · refine h g' cap' w' k1 k2 ?_
      rcases k4 with k4 | k4
      · exact .inl (by simpa [Value.ownBlock] using k4)
      · exact .inr (by rw [← hH]; simpa [Value.ownBlock] using k4)
end Go.Proofs.Ytfddefenmlcecaa.Mem

/- An array of two slices of structs of four integers and a bool, opened. Conditions: none. -/
namespace Go.Proofs.Ytfddefenmlcecaa.Read
open Go.ChangeShapes Go.WideShapes Go.ChangeAt Go.RowKit
set_option linter.unusedVariables false
set_option linter.unusedSimpArgs false

/-- What is known of such a slice. -/
def WorksAt (P : Program) (W : World) (k0 k1 k2 k3 : IntKind) (a : Option Addr) (len : Nat) : Prop := len ≤ 9223372036854775807 ∧ ∀ j, j < len → ∃ k off, a = some ⟨k, off, none⟩ ∧ k < W.heap.size ∧ ∃ (d0 d1 d2 d3 : Int) (d4 : Bool), ((Lit.int k0 d0).wf = true ∧ (Lit.int k1 d1).wf = true ∧ (Lit.int k2 d2).wf = true ∧ (Lit.int k3 d3).wf = true) ∧ W.cell? ⟨k, off + j * 5, none⟩ = some (.int k0 d0) ∧ W.cell? ⟨k, off + j * 5 + 1, none⟩ = some (.int k1 d1) ∧ W.cell? ⟨k, off + j * 5 + 2, none⟩ = some (.int k2 d2) ∧ W.cell? ⟨k, off + j * 5 + 3, none⟩ = some (.int k3 d3) ∧ W.cell? ⟨k, off + j * 5 + 4, none⟩ = some (.bool d4)
theorem works_at {H : Type} {enc : TypeId × Value → H} {P : Program} {W : World} {t e : TypeId} {f0 f1 f2 f3 f4 : Field} {k0 k1 k2 k3 : IntKind} {cs0 : List Value} {fuel : Nat} {z : DataW H × List MemPlace} (ht : P.underlying t = some (.slice e)) (he : P.underlying e = some (.struct #[f0, f1, f2, f3, f4])) (hC : P.cellsOf e = 5)
    (ho : (f0.offset, f1.offset, f2.offset, f3.offset, f4.offset) = (0, 1, 2, 3, 4)) (hc : (P.cellsOf f0.type, P.cellsOf f1.type, P.cellsOf f2.type, P.cellsOf f3.type, P.cellsOf f4.type) = (1, 1, 1, 1, 1))
    (u0 : P.underlying f0.type = some (.int k0)) (u1 : P.underlying f1.type = some (.int k1)) (u2 : P.underlying f2.type = some (.int k2)) (u3 : P.underlying f3.type = some (.int k3)) (u4 : P.underlying f4.type = some .bool)
    (hf : DataW.trod enc P W 0 (fun _ => true) true fuel t cs0 = some z) :
    ∃ (a : Option Addr) (len cap : Nat), cs0 = [.slice a len cap] ∧ WorksAt P W k0 k1 k2 k3 a len := by
  rcases Go.Deep.open_slice ht hf with ⟨hcs, hx⟩ | ⟨a, len', cap', m, n, D, Pl, hcs, _, hl, hm, hmm, hx, hi⟩
  · exact ⟨none, 0, 0, hcs, by omega, by intro j hj; omega⟩
  · simp only [if_true] at hmm
    refine ⟨some a, len', cap', hcs, by unfold maxLen at hm; omega, fun j hj => ?_⟩
    obtain ⟨cs, hcl, htr⟩ := hi j (by omega)
    rw [hC] at hcl
    obtain ⟨_, hlen, hat⟩ := World.cells?_some hcl
    obtain ⟨ys, n', _, _, r3, r4, hfl⟩ := DataW.trod_struct he htr
    have hyl : ys.length = 5 := by first | simpa using r4 | simpa using r3
    simp only [Prod.mk.injEq] at ho hc
    obtain ⟨o0, o1, o2, o3, o4⟩ := ho
    obtain ⟨s0, s1, s2, s3, s4⟩ := hc
    match cs, hlen with
    | [c0, c1, c2, c3, c4], _ =>
      have x0 := hfl 0 f0 rfl
      have x1 := hfl 1 f1 rfl
      have x2 := hfl 2 f2 rfl
      have x3 := hfl 3 f3 rfl
      have x4 := hfl 4 f4 rfl
      rw [o0, s0] at x0
      rw [o1, s1] at x1
      rw [o2, s2] at x2
      rw [o3, s3] at x3
      rw [o4, s4] at x4
      simp only [List.drop_zero, List.drop_succ_cons, List.take_succ_cons, List.take_zero] at x0 x1 x2 x3 x4
      rw [List.getElem?_eq_getElem (show 0 < ys.length by omega)] at x0
      rw [List.getElem?_eq_getElem (show 1 < ys.length by omega)] at x1
      rw [List.getElem?_eq_getElem (show 2 < ys.length by omega)] at x2
      rw [List.getElem?_eq_getElem (show 3 < ys.length by omega)] at x3
      rw [List.getElem?_eq_getElem (show 4 < ys.length by omega)] at x4
      obtain ⟨d0, e0, _, z0⟩ := DataW.trod_int u0 x0
      obtain ⟨d1, e1, _, z1⟩ := DataW.trod_int u1 x1
      obtain ⟨d2, e2, _, z2⟩ := DataW.trod_int u2 x2
      obtain ⟨d3, e3, _, z3⟩ := DataW.trod_int u3 x3
      obtain ⟨d4, e4, _⟩ := DataW.trod_bool u4 x4
      simp only [List.cons.injEq, and_true] at e0 e1 e2 e3 e4
      subst e0 e1 e2 e3 e4
      have w0 := hat 0 (by omega)
      have w1 := hat 1 (by omega)
      have w2 := hat 2 (by omega)
      have w3 := hat 3 (by omega)
      have w4 := hat 4 (by omega)
      rw [Go.Deep.add_add] at w0 w1 w2 w3 w4
      simp only [List.getElem?_cons_zero, List.getElem?_cons_succ] at w0 w1 w2 w3 w4
      obtain ⟨b, off, spot⟩ := a
      have hspot : spot = none := by
        obtain ⟨cs0, hcl0, _⟩ := hi 0 (by omega)
        rw [hC] at hcl0
        obtain ⟨_, hlen0, hat0⟩ := World.cells?_some hcl0
        have w := hat0 0 (by omega)
        rw [List.getElem?_eq_getElem (show 0 < cs0.length by omega)] at w
        simpa [Addr.add] using World.cell?_spot w
      subst hspot
      simp only [Addr.add_lit] at w0 w1 w2 w3 w4
      refine ⟨b, off, rfl, World.block_lt_of_cell? _ _ w0, d0, d1, d2, d3, d4, ⟨z0, z1, z2, z3⟩, w0, ?_, ?_, ?_, ?_⟩
      · rw [Nat.add_assoc]; exact w1
      · rw [Nat.add_assoc]; exact w2
      · rw [Nat.add_assoc]; exact w3
      · rw [Nat.add_assoc]; exact w4

/-- An array of two slices of structs of four integers and a bool. -/
theorem pairWorks {H : Type} {enc : TypeId × Value → H} {P : Program} {W : World} {base : Nat} {t s e : TypeId} {f0 f1 f2 f3 f4 : Field} {k0 k1 k2 k3 : IntKind} {v : Value} {d : DataW H} {ps : List MemPlace} {r : Reach} (ht : P.underlying t = some (.array 2 s)) (hs : P.underlying s = some (.slice e)) (hsc : P.cellsOf s = 1) (htc : P.cellsOf t = 2) (he : P.underlying e = some (.struct #[f0, f1, f2, f3, f4])) (hC : P.cellsOf e = 5)
    (ho : (f0.offset, f1.offset, f2.offset, f3.offset, f4.offset) = (0, 1, 2, 3, 4)) (hc : (P.cellsOf f0.type, P.cellsOf f1.type, P.cellsOf f2.type, P.cellsOf f3.type, P.cellsOf f4.type) = (1, 1, 1, 1, 1))
    (u0 : P.underlying f0.type = some (.int k0)) (u1 : P.underlying f1.type = some (.int k1)) (u2 : P.underlying f2.type = some (.int k2)) (u3 : P.underlying f3.type = some (.int k3)) (u4 : P.underlying f4.type = some .bool)
    (hv : Value.okWide P W r base t v) (h : DataW.Trod enc P W 0 (fun _ => true) true t v d ps) :
    ∃ (a : Option Addr) (la ca : Nat) (b : Option Addr) (lb cb : Nat), v = .agg #[.slice a la ca, .slice b lb cb] ∧ WorksAt P W k0 k1 k2 k3 a la ∧ WorksAt P W k0 k1 k2 k3 b lb := by
  obtain ⟨cs, rfl, hsz, _⟩ : ∃ cs, v = .agg cs ∧ cs.size = P.cellsOf t ∧ Row.okWide P W r base t cs := by
    simpa [Value.okWide, ht] using hv
  obtain ⟨fuel, hf⟩ := h
  obtain ⟨xs, m, _, _, hlen, hxs, hel⟩ := DataW.trod_array ht hf
  obtain ⟨l⟩ := cs
  simp only [Value.cells] at hlen hel
  have hl2 : l.length = 2 := by rw [htc] at hsz; simpa using hsz
  match l, hl2 with
  | [x, y], _ =>
    have h0 := hel 0 (by omega)
    have h1 := hel 1 (by omega)
    rw [hsc] at h0 h1
    simp only [Nat.mul_one, List.drop_zero, List.drop_succ_cons, List.take_succ_cons, List.take_zero] at h0 h1
    obtain ⟨z0, hz0⟩ : ∃ z, xs[0]? = some z := by rw [List.getElem?_eq_getElem (show 0 < xs.length by omega)]; exact ⟨_, rfl⟩
    obtain ⟨z1, hz1⟩ : ∃ z, xs[1]? = some z := by rw [List.getElem?_eq_getElem (show 1 < xs.length by omega)]; exact ⟨_, rfl⟩
    rw [hz0] at h0
    rw [hz1] at h1
    obtain ⟨a, la, ca, ea, wa⟩ := works_at (k0 := k0) (k1 := k1) (k2 := k2) (k3 := k3) hs he hC ho hc u0 u1 u2 u3 u4 h0
    obtain ⟨b, lb, cb, eb, wb⟩ := works_at (k0 := k0) (k1 := k1) (k2 := k2) (k3 := k3) hs he hC ho hc u0 u1 u2 u3 u4 h1
    cases ea
    cases eb
    exact ⟨a, la, ca, b, lb, cb, rfl, wa, wb⟩
end Go.Proofs.Ytfddefenmlcecaa.Read

/- The law RunqComes, walked. Conditions: each argument is a number of its kind. -/
namespace Go.Proofs.Ytfddefenmlcecaa.Queue
open Go.ChangeShapes Go.WideShapes Go.ChangeAt Go.RowKit Tree
set_option linter.unusedVariables false
set_option linter.unusedSimpArgs false
set_option maxRecDepth 100000

theorem Bnear.pick {n : Bn} {cr gr tk N : Int} (h : Bnear n cr gr tk N) : Bnear ⟨pickS n.st gr, n.own⟩ cr gr tk N :=
  ⟨⟨h.good.sound.pick gr, h.good.flag, h.good.heavy, h.good.own, h.good.len⟩, h.near.cur _, h.own, h.min0, h.minN⟩
theorem workA_bd (n : Bn) (cr gr tk : Int) (ws : Bool) (k : Wk) (ht : 1 ≤ tk) : 0 ≤ (workA n cr gr tk ws k).2 ∧ (workA n cr gr tk ws k).2 ≤ tk := by
  unfold workA
  have h1 : 0 ≤ k.ns % (tk + 1) := Int.emod_nonneg _ (by omega)
  have h2 : k.ns % (tk + 1) < tk + 1 := Int.emod_lt_of_pos _ (by omega)
  split
  · simp only; omega
  · split
    · simp only; omega
    · split
      · simp only; omega
      · simp only; omega
/-- The numbers of the eight. -/
def cellsU (sv : Nat → Int) : List Value := (List.range 8).map fun i => Value.int .u64 (sv i)
theorem cellsU_at (sv : Nat → Int) {i : Nat} (h : i < 8) : (cellsU sv)[i]? = some (.int .u64 (sv i)) := by simp [cellsU, h]
theorem cellsU_same {sv sv' : Nat → Int} (h : ∀ i, i < 8 → sv' i = sv i) : cellsU sv' = cellsU sv := by
  unfold cellsU
  apply List.map_congr_left
  intro i hi
  rw [h i (by simpa using hi)]
theorem cellsU_set (sv : Nat → Int) {j : Nat} (hj : j < 8) (ns : Int) : (cellsU sv).set j (.int .u64 (sv j + ns)) = cellsU (fun i => sv i + if (j : Int) = (i : Int) then ns else 0) := by
  apply List.ext_getElem?
  intro i
  rw [List.getElem?_set]
  by_cases h : i < 8
  · rw [cellsU_at _ h, cellsU_at _ h]
    by_cases e : j = i
    · subst e; simp [cellsU, hj]
    · rw [if_neg e, if_neg (by omega), Int.add_zero]
  · have h1 : (cellsU fun i => sv i + if (j : Int) = (i : Int) then ns else 0)[i]? = none := List.getElem?_eq_none (by simp [cellsU]; omega)
    have h2 : (cellsU sv)[i]? = none := List.getElem?_eq_none (by simp [cellsU]; omega)
    rw [h1, h2, if_neg (by omega)]
theorem lead_pos {e : Ent} {b : Int} (h0 : 0 ≤ e.wt) (h1 : 0 ≤ e.rm) : 1024 * (0 : Int) ≤ lead e b := by
  unfold lead
  have := Int.mul_nonneg h0 (show 0 ≤ max 0 (e.v - b) by omega)
  omega
def ComesA (w1 : World) (b q : Nat) (cr gr tk : Int) (left : Nat) (t : Value) (wr : World) : Prop :=
  ∃ (i : Nat) (n : Bn), left + i = 60 ∧ t = .int .i64 i ∧ Bnear n cr gr tk i ∧ (∀ e ∈ n.st.es, e.id < 8) ∧ Be wr b q n.own cr gr tk ∧ Qu wr q (fun j => j < w1.heap.size ∨ j = b) n.st ∧ Below w1.heap.size w1 wr
def ComesB (w1 : World) (b q zb : Nat) (cr gr tk m0 : Int) (left : Nat) (t : Value) (wr : World) : Prop :=
  ∃ (i : Nat) (n : Bn) (sv : Nat → Int), left + i = 200 ∧ t = .int .i64 i ∧ (∃ N : Nat, N ≤ 61 + i ∧ Bnear n cr gr tk N) ∧ Waits n m0 cr sv ∧ (∀ j, 0 ≤ sv j ∧ sv j ≤ 65536 * i) ∧ Be wr b q n.own cr gr tk ∧ Qu wr q (fun j => (j < w1.heap.size ∨ j = zb) ∨ j = b) n.st ∧ wr.heap[zb]? = some (.cells (cellsU sv).toArray 75 (0, 0)) ∧ Below w1.heap.size w1 wr
/-- Behind j entities: the weight of the one at p, once it was passed. -/
def FindI (w4 : World) (len p : Nat) (W : Int) (left : Nat) (tw t : Value) (wr : World) : Prop := ∃ (j : Nat) (u : Int), j ≤ len ∧ left = len - j ∧ tw = .int .u64 u ∧ t = .int .i64 j ∧ (p < j → u = W) ∧ wr = w4

set_option maxHeartbeats 8000000 in
theorem comesLaw (c g k : Int) (u1 : Option Addr) (l1 c1 : Nat) (u2 : Option Addr) (l2 c2 : Nat) (wt : Int) (w : World) (hc : 0 ≤ c ∧ c ≤ 65535) (hg : 0 ≤ g ∧ g ≤ 65535) (hk : 0 ≤ k ∧ k ≤ 65535) (hwt : 0 ≤ wt ∧ wt ≤ 4294967295) (hl1 : l1 ≤ 9223372036854775807) (hl2 : l2 ≤ 9223372036854775807) (hW1 : Works u1 l1 w) (hW2 : Works u2 l2 w) :
    Calls Try.prog 6 #[.agg #[.int .u16 c, .int .u16 g, .int .u16 k], .agg #[.slice u1 l1 c1, .slice u2 l2 c2], .int .u32 wt] w (IsTrue w) := by
  have T : Terms c g (1 + k) := ⟨hc.1, hc.2, hg.1, hg.2, by omega, by omega⟩
  have hA : ((w.alloc (.cells #[.int .u16 c, .int .u16 g, .int .u16 k] 53)).alloc (.cells #[.slice u1 l1 c1, .slice u2 l2 c2] 68)).heap[w.heap.size]? = some (.cells #[.int .u16 c, .int .u16 g, .int .u16 k] 53 (0, 0)) := Mem.box_new (heap_alloc_new w _)
  have hP : ((w.alloc (.cells #[.int .u16 c, .int .u16 g, .int .u16 k] 53)).alloc (.cells #[.slice u1 l1 c1, .slice u2 l2 c2] 68)).heap[w.heap.size + 1]? = some (.cells #[.slice u1 l1 c1, .slice u2 l2 c2] 68 (0, 0)) := (by have := heap_alloc_new (w.alloc (.cells #[.int .u16 c, .int .u16 g, .int .u16 k] 53)) (.cells #[.slice u1 l1 c1, .slice u2 l2 c2] 68); simp only [World.size_alloc] at this; exact this)
  have gA : Below w.heap.size w ((w.alloc (.cells #[.int .u16 c, .int .u16 g, .int .u16 k] 53)).alloc (.cells #[.slice u1 l1 c1, .slice u2 l2 c2] 68)) := ((Below.refl _ w).alloc (Nat.le_refl _) _).alloc (by simp) _
  replace hW1 := Lib.hid (hW1.fresh gA)
  replace hW2 := Lib.hid (hW2.fresh gA)
  go_enter Try.func6, Try.ntmps6
  go_upto_region 1 with fail
  generalize ((w.alloc (.cells #[.int .u16 c, .int .u16 g, .int .u16 k] 53)).alloc (.cells #[.slice u1 l1 c1, .slice u2 l2 c2] 68)) = W0 at *
  obtain ⟨a0, a1, a2, az⟩ := Mem.three hA
  obtain ⟨p0, p1, pz⟩ := Mem.two hP
  go_wp2_with fail
  go_at_call 10; refine (awake _).mono ?_; rintro e w1 ⟨rfl, hg1⟩
  replace hA := Mem.box_fresh hA hg1
  have hgw : Below w.heap.size w w1 := gA.trans (hg1.mono gA.size)
  replace hW1 := Lib.hid (hW1.out.fresh hg1)
  replace hW2 := Lib.hid (hW2.out.fresh hg1)
  clear a0 a1 a2 az p0 p1 pz hP hg1 gA
  obtain ⟨a0, a1, a2, az⟩ := Mem.three hA
  go_wp2_with fail
  go_at_call 26; refine (sets c g k _ hc hg hk).mono ?_; rintro e w2 ⟨b, q, hb, hq, rfl, hg2, hBe, hQu⟩
  have hQ := hQu (· < w1.heap.size) (fun _ h => h)
  have st0 : ComesA w1 b q c g (1 + k) 60 (.int .i64 0) w2 := ⟨0, ⟨St.new, own0⟩, rfl, rfl, near_new T, by simp [St.new], hBe, hQ, hg2⟩
  replace st0 := Lib.hid st0
  clear hBe hQu hQ hg2 a0 a1 a2 az hA
  go_wp2_with fail
  go_loopg [11] 60 (fun left t wr => ComesA w1 b q c g (1 + k) left t wr)
  case atStart => exact st0.out
  case round =>
    clear st0
    obtain ⟨i, n, hi, rfl, hN, hid, hB, hQ, hbw⟩ := hrel
    by_cases hlt : i < l1 ∧ i < 60
    · obtain ⟨h1, h2⟩ := hlt
      have q1 : (i : Int) < l1 := by omega
      have q2 : (i : Int) < 60 := by omega
      obtain ⟨kb, off, rfl, hkb, x, hx, c0, c1, c2, c3, c4⟩ := (hW1.out.fresh hbw) i h1
      have WK : Hid (Calls Try.prog 27 #[.pointer (some ⟨b, 0, none⟩), .agg #[.int .i64 x.kind, .int .u8 x.who, .int .u32 x.weight, .int .u32 x.ns, .bool x.yields], .bool true] wr _) :=
        work wr b q (· < w1.heap.size) n c g (1 + k) x true hB hQ (fun j hj => Nat.lt_of_lt_of_le hj hbw.size) (by omega) hN.good (by unfold I64; omega) (by unfold I64; omega) (by omega) hx
      have hN' : Bnear (workB n c g (1 + k) true x) c g (1 + k) ((i + 1 : Nat) : Int) := by
        have := hN.work (k := x) (ws := true) T hx (by omega) (by omega)
        rwa [show ((i : Int) + 1) = ((i + 1 : Nat) : Int) by omega] at this
      have hid' := ids_work (ws := true) hN.good hx 8 (by omega) hid
      clear hN hB hQ hid
      generalize workB n c g (1 + k) true x = n' at *
      generalize workA n c g (1 + k) true x = wa at *
      have NX : Hid (∀ w3, Be w3 b q n'.own c g (1 + k) → Qu w3 q (fun j => j < w1.heap.size ∨ j = b) n'.st → Same (· < w1.heap.size) wr w3 → ComesA w1 b q c g (1 + k) (gk - 1) (.int .i64 ((i : Int) + 1)) w3) := fun w3 hB3 hQ3 hs3 => ⟨i + 1, n', by omega, by go_num, hN', hid', hB3, hQ3, hbw.trans hs3.below⟩
      clear hN' hid'
      go_wp2_with fail
      go_at_call 27; refine WK.out.mono ?_; rintro e w3 ⟨rfl, hB3, hQ3, hs3⟩
      clear WK hbw c0 c1 c2 c3 c4
      go_wp2_with fail
      go_roundg (gk - 1)
      case measure => omega
      case rel => exact NX.out _ hB3 hQ3 hs3
    · have hd : (¬ (i : Int) < l1) ∨ ((i : Int) < l1 ∧ ¬ (i : Int) < 60) := by omega
      have i60 : i ≤ 60 := by omega
      have hmo := T.most
      have hm := hN.min0
      have hmN := hN.minN
      have mB : n.st.min ≤ 72000000000 := by
        have : ((i : Nat) : Int) * (g + mostOf (1 + k)) ≤ 60 * (g + mostOf (1 + k)) := Int.mul_le_mul_of_nonneg_right (by omega) (by omega)
        omega
      obtain ⟨x, hx⟩ : ∃ x, x = heavyOf wt := ⟨_, rfl⟩
      have H0 := Lib.hid (fun w => heavies wt w hwt.1 hwt.2)
      rw [← hx] at H0
      have x1 : 64 ≤ x ∧ x ≤ 4095 := by unfold heavyOf at hx; omega
      clear hx
      obtain ⟨z1, B1, S1, I1, E1⟩ := hN.put T (id := 8) (x := x) (by omega) (by omega) (by omega) (by omega) hid x1.1 x1.2 n.st.min (by omega) (by omega)
      have len1 : n.st.es.length ≤ 100 := few_ids 100 n.st.es hN.good.sound.once (fun e he => by have := hN.good.sound.each e he; have := hid e he; omega)
      have P1 := Lib.hid (fun w' h hO => puts w' q (fun j => j < w1.heap.size ∨ j = b) n.st ⟨8, x, n.st.min, 0⟩ h hO (by simp only; unfold I64; omega) (by simp only; omega) (by simp) (by omega))
      rw [z1] at P1
      have hmin1 : n.st.min ≤ (putS n.st ⟨8, x, n.st.min, 0⟩).min := by
        rw [show putS n.st ⟨8, x, n.st.min, 0⟩ = rise { n.st with es := insE ⟨8, x, n.st.min, 0⟩ n.st.es } from if_pos z1]
        exact rise_min _
      have W0' : Hid (∀ ch, Waits ⟨{ putS n.st ⟨8, x, n.st.min, 0⟩ with cur := ch }, n.own⟩ n.st.min c (fun _ => 0)) := fun ch => by
        refine ⟨⟨⟨8, x, n.st.min, 0⟩, ?_, rfl, rfl⟩, hmin1, fun e he _ => ?_, fun i e he _ => ?_⟩
        · show _ ∈ (putS n.st ⟨8, x, n.st.min, 0⟩).es
          rw [E1]; exact mem_insE.2 (.inl rfl)
        · have := B1.good.sound.each e he
          exact lead_pos (by omega) (by omega)
        · have := hN.good.own i e he
          exact lead_pos (by omega) (by omega)
      obtain ⟨st2, hst2⟩ : ∃ st2, st2 = putS n.st ⟨8, x, n.st.min, 0⟩ := ⟨_, rfl⟩
      rw [← hst2] at B1 P1 W0'
      simp only [Ent.val] at P1
      have SS := B1.good.sound
      simp only at SS
      have PK := Lib.hid (fun w' h hO => picks w' q (fun j => j < w1.heap.size ∨ j = b) st2 g h hO SS.once SS.cur (by unfold I64; omega) (fun e he => (SS.each e he).2.2.2.2.2.2))
      have B3 := Lib.hid (B1.pick)
      have MN := Lib.hid (fun w' h => min_still w' q (fun j => j < w1.heap.size ∨ j = b) n.st h)
      obtain ⟨d0, d33, d34, d35, dz⟩ := hB.cells
      have HB := Lib.hid hB
      have HQ := Lib.hid hQ
      have HW := Lib.hid hbw
      have blt := hB.lt
      have hOO : Hid (∀ w' : World, w1.heap.size ≤ w'.heap.size → b < w'.heap.size → ∀ j, j < w1.heap.size ∨ j = b → j < w'.heap.size) := fun w' h1 h2 j hj => by rcases hj with hj | rfl <;> omega
      clear hN hid hB hQ hbw B1 S1 I1 E1 z1 hst2 SS hmN hlt hW1 hmin1
      simp only [pickS] at B3
      generalize n.st.min = mn at *
      generalize n.own = own at *
      generalize n.st = sn at *
      generalize chosen st2 g = ch at *
      replace W0' := Lib.hid (W0'.out ch)
      have hg0 := (Below.refl wr.heap.size wr).drew
      rcases hd with q1 | ⟨q1, q2⟩
      all_goals
        go_wp2_with fail
        go_region_held3 (fun w' => w'.cell? ⟨b, 0, none⟩ = some (.pointer (some ⟨q, 0, none⟩))) (first | exact d0 | exact l0)
          (first
            | (go_at_call 33; refine (H0.out _).mono ?_; rintro e w4 ⟨rfl, hw⟩; subst hw)
            | (go_at_call 29; refine (MN.out _ (HQ.out.fresh (Below.refl _ wr).drew)).mono ?_; rintro e w5 ⟨rfl, hw⟩; subst hw)
            | (go_at_call 13; refine (P1.out _ (HQ.out.fresh (Below.refl _ wr).drew) (hOO.out _ (by have := HW.out.size; exact this) blt)).mono ?_; rintro e w6 ⟨rfl, hQ6, hs6⟩; have hB6 := HB.out.on ((hs6.block b (.inr rfl)).trans rfl); have hg16 := HW.out.trans ((hg0.mono HW.out.size).trans ((hs6.mono (fun j hj => .inl hj)).below)); obtain ⟨l0, l33, l34, l35, lz⟩ := hB6.cells))
        have hO6 := hOO.out w6 hg16.size hB6.lt
        have PK8 := Lib.hid (PK.out w6.drew (hQ6.fresh (Below.refl _ w6).drew) hO6)
        clear d0 d33 d34 d35 dz HB HQ MN H0 P1 PK hg0
        go_wp2_with fail
        go_region_held3 (fun w' => w'.cell? ⟨b, 0, none⟩ = some (.pointer (some ⟨q, 0, none⟩)) ∧ w'.cell? ⟨b, 34, none⟩ = some (.int .i64 g)) (first | exact ⟨l0, l34⟩ | exact ⟨e0, e34⟩)
          (first
            | (go_at_call 21; refine PK8.out.mono ?_; rintro e w9 ⟨rfl, hQ9, hs9⟩; have hB9 := hB6.on ((hs9.block b (.inr rfl)).trans rfl); have hg19 := hg16.trans ((((Below.refl _ w6).drew).mono hg16.size).trans ((hs9.mono (fun j hj => .inl hj)).below)); obtain ⟨e0, e33, e34, e35, ez⟩ := hB9.cells))
        have hzn := heap_alloc_new w9 (.cells #[.int .u64 0, .int .u64 0, .int .u64 0, .int .u64 0, .int .u64 0, .int .u64 0, .int .u64 0, .int .u64 0] 75)
        have hgz := (Below.refl _ w9).alloc (Nat.le_refl _) (.cells #[.int .u64 0, .int .u64 0, .int .u64 0, .int .u64 0, .int .u64 0, .int .u64 0, .int .u64 0, .int .u64 0] 75)
        have J0 : ComesB w1 b q w9.heap.size c g (1 + k) mn 200 (.int .i64 0) (w9.alloc (.cells #[.int .u64 0, .int .u64 0, .int .u64 0, .int .u64 0, .int .u64 0, .int .u64 0, .int .u64 0, .int .u64 0] 75)) := ⟨0, _, fun _ => 0, by omega, rfl, ⟨i + 1, by omega, by rw [show ((i + 1 : Nat) : Int) = (i : Int) + 1 by omega]; exact B3.out⟩, W0'.out, fun j => ⟨Int.le_refl _, by simp⟩, hB9.fresh hgz, (hQ9.other (fun j hj => by rcases hj with (hj | rfl) | rfl <;> first | exact .inl (.inl hj) | exact .inr (Nat.le_refl _) | exact .inl (.inr rfl))).fresh hgz, hzn, hg19.trans (hgz.mono hg19.size)⟩
        replace J0 := Lib.hid J0
        have hzb : b ≠ w9.heap.size ∧ w1.heap.size ≤ w9.heap.size := ⟨by have := hB9.lt; omega, hg19.size⟩
        clear l0 l33 l34 l35 lz e0 e33 e34 e35 ez hB6 hQ6 hs6 hg16 hO6 PK8 hB9 hQ9 hs9 hg19 hzn hgz B3 W0' hOO HW
        go_wp2_with fail
        generalize w9.heap.size = zb at *
        go_loopg [13] 200 (fun left t w3 => ComesB w1 b q zb c g (1 + k) mn left t w3)
        case atStart => exact J0.out
        case round =>
          clear J0
          obtain ⟨j, n, sv, hj, rfl, ⟨N, hN, hBn⟩, hWt, hsv, hB, hQ, hzz, hbw⟩ := hrel
          have hF := Lib.hid (hgw.trans (hbw.mono hgw.size))
          by_cases hlt : j < l2 ∧ j < 200
          · obtain ⟨h1, h2⟩ := hlt
            have s1 : (j : Int) < l2 := by omega
            have s2 : (j : Int) < 200 := by omega
            obtain ⟨kb, off, rfl, hkb, z, hz, c0', c1', c2', c3', c4'⟩ := hW2.out j h1
            have CEL : Hid (∀ w', Below wr.heap.size wr w' → w'.cell? ⟨kb, off + j * 5, none⟩ = some (.int .i64 z.kind) ∧ w'.cell? ⟨kb, off + j * 5 + 1, none⟩ = some (.int .u8 z.who) ∧ w'.cell? ⟨kb, off + j * 5 + 2, none⟩ = some (.int .u32 z.weight) ∧ w'.cell? ⟨kb, off + j * 5 + 3, none⟩ = some (.int .u32 z.ns) ∧ w'.cell? ⟨kb, off + j * 5 + 4, none⟩ = some (.bool z.yields)) := fun w' hg => by
              have hgg := hbw.trans (hg.mono hbw.size)
              exact ⟨(hgg.cell (p := ⟨kb, _, none⟩) hkb).trans c0', (hgg.cell (p := ⟨kb, _, none⟩) hkb).trans c1', (hgg.cell (p := ⟨kb, _, none⟩) hkb).trans c2', (hgg.cell (p := ⟨kb, _, none⟩) hkb).trans c3', (hgg.cell (p := ⟨kb, _, none⟩) hkb).trans c4'⟩
            clear c0' c1' c2' c3' c4'
            have CU := Lib.hid (currents wr q _ n.st hQ)
            obtain ⟨d0, d33, d34, d35, dz⟩ := hB.cells
            by_cases hc8 : n.st.cur = 8
            · rw [hc8] at CU
              clear hBn hWt hB hQ hc8 CEL hzz hbw
              go_wp2_with fail
              go_at_call 35; refine CU.out.mono ?_; rintro e w4 ⟨rfl, hg4⟩
              go_wp2_with fail
              go_ret
              exact ⟨rfl, hF.out.trans (hg4.mono hF.out.size)⟩
            have hc8' : (n.st.cur == 8) = false := by simpa using hc8
            have hbz : ¬ (b < w1.heap.size ∨ b = zb) := by omega
            have hzl := Mem.lt_of hzz
            have WK : Hid (∀ w4, Below wr.heap.size wr w4 → Calls Try.prog 27 #[.pointer (some ⟨b, 0, none⟩), .agg #[.int .i64 z.kind, .int .u8 z.who, .int .u32 z.weight, .int .u32 z.ns, .bool z.yields], .bool false] w4 _) := fun w4 hg4 =>
              work w4 b q (fun j => j < w1.heap.size ∨ j = zb) n c g (1 + k) z false (hB.fresh hg4) (hQ.fresh hg4) (fun j hj => by have := hg4.size; have := hbw.size; rcases hj with hj | rfl <;> omega) hbz hBn.good (by unfold I64; omega) (by unfold I64; omega) (by omega) hz
            have hN' : Bnear (workB n c g (1 + k) false z) c g (1 + k) ((N + 1 : Nat) : Int) := by
              have := hBn.work (k := z) (ws := false) T hz (by omega) (by omega)
              rwa [show ((N : Int) + 1) = ((N + 1 : Nat) : Int) by omega] at this
            have hbd := workA_bd n c g (1 + k) false z (by omega)
            by_cases hw8 : (workA n c g (1 + k) false z).1 = 8
            · clear hN' hBn hWt hB hQ hzz
              generalize workB n c g (1 + k) false z = n' at *
              generalize workA n c g (1 + k) false z = wa at *
              obtain ⟨who, ns⟩ := wa
              simp only at hw8 WK
              subst hw8
              generalize n.st.cur = cc at *
              go_wp2_with fail
              go_at_call 35; refine CU.out.mono ?_; rintro e w4 ⟨rfl, hg4⟩
              obtain ⟨c0, c1, c2, c3, c4⟩ := CEL.out _ hg4
              go_wp2_with fail
              go_at_call 27; refine (WK.out _ hg4).mono ?_; rintro e w3 ⟨rfl, hB3, hQ3, hs3⟩
              go_wp2_with fail
              go_ret
              exact ⟨rfl, hgw.trans (((hbw.trans (hg4.mono hbw.size)).trans ((hs3.mono (fun j hj => .inl hj)).below)).mono hgw.size)⟩
            obtain ⟨hWt', hroom⟩ := hWt.work hBn T hz (by omega) (by omega) hw8
            have hmo := T.most
            clear hBn hWt
            generalize workB n c g (1 + k) false z = n' at *
            generalize workA n c g (1 + k) false z = wa at *
            obtain ⟨who, ns⟩ := wa
            simp only at hw8 WK hWt' hroom hbd
            obtain ⟨ns0, ns1⟩ := hbd
            have hw8' : (who == 8) = false := by simpa using hw8
            have hsv' : ∀ i : Nat, 0 ≤ (sv i + if who = (i : Int) then ns else 0) ∧ (sv i + if who = (i : Int) then ns else 0) ≤ 65536 * ((j + 1 : Nat) : Int) := fun i => by
              obtain ⟨a1, a2⟩ := hsv i
              split <;> omega
            have NX : Hid (∀ W4, Below w1.heap.size w1 W4 → Be W4 b q n'.own c g (1 + k) → Qu W4 q (fun j => (j < w1.heap.size ∨ j = zb) ∨ j = b) n'.st → W4.heap[zb]? = some (.cells (cellsU (fun i => sv i + if who = (i : Int) then ns else 0)).toArray 75 (0, 0)) → ∀ w', Below W4.heap.size W4 w' → ComesB w1 b q zb c g (1 + k) mn (200 - (j + 1)) (.int .i64 ((j : Int) + 1)) w') := fun W4 h14 hB4 hQ4 hz4 w' hg => ⟨j + 1, n', _, by omega, by go_num, ⟨N + 1, by omega, hN'⟩, hWt', hsv', hB4.fresh hg, hQ4.fresh hg, Mem.box_fresh hz4 hg, h14.trans (hg.mono h14.size)⟩
            have S := hN'.good.sound
            have len8 := hN'.good.len
            have HHV := hN'.good.heavy
            clear hN' hWt'
            generalize hcc : n.st.cur = cc at *
            clear hcc
            have hbw4 : Hid (∀ w4, Below wr.heap.size wr w4 → w4.heap[zb]? = some (.cells (cellsU sv).toArray 75 (0, 0)) ∧ Below w1.heap.size w1 w4) := fun w4 hg => ⟨Mem.box_fresh hzz hg, hbw.trans (hg.mono hbw.size)⟩
            clear hB hQ hzz hbw
            by_cases hin : 0 ≤ who ∧ who < 8
            · obtain ⟨i0, i8⟩ := hin
              have i0' : decide (0 ≤ who) = true := by simpa using i0
              have i8' : decide (who < 8) = true := by simpa using i8
              obtain ⟨ew, hew, heid, hrm⟩ := hroom i0 i8
              clear hroom
              obtain ⟨p, rfl⟩ := Int.eq_ofNat_of_zero_le i0
              have hp8 : p < 8 := by omega
              simp only [Int.toNat_natCast] at hrm
              obtain ⟨eo, heo⟩ : ∃ eo, n'.own[p]? = some eo := ⟨_, List.getElem?_eq_getElem (by rw [len8]; exact hp8)⟩
              have HEO := Lib.hid heo
              obtain ⟨ix, hix⟩ := List.mem_iff_getElem?.1 hew
              have hxl : ix < n'.st.es.length := (List.getElem?_eq_some_iff.1 hix).1
              have hwW := HHV ew hew
              obtain ⟨svp0, svp1⟩ := hsv p
              have SVP : Hid (cellsU (fun i => sv i + if (p : Int) = (i : Int) then ns else 0) = (cellsU sv).set p (.int .u64 (sv p + ns))) := (cellsU_set sv hp8 ns).symm
              have zcell := Lib.hid (cellsU_at sv hp8)
              have UNIQ : Hid (∀ e, e ∈ n'.st.es → e.id = (p : Int) → e = ew) := fun e he hid => once_eq S.once he hew (by rw [hid, heid])
              have PIX : Hid (∀ (i : Nat) (e : Ent), n'.st.es[i]? = some e → e.id ≠ (p : Int) → i ≠ ix) := fun i e he hne => fun hi => hne (by subst hi; rw [hix] at he; cases he; exact heid)
              have EN := Lib.hid (fun w' h => ents w' q (fun j => (j < w1.heap.size ∨ j = zb) ∨ j = b) n'.st h S.once (fun e he => by have := S.each e he; unfold I64; omega) (by have := S.few; omega))
              have few := S.few
              clear S HHV heo hix hew heid hsv hsv'
              generalize hR : (c + g + 1) * ew.wt = R at *
              have R0 : 0 ≤ R := by rw [← hR]; exact Int.mul_nonneg (by omega) (by omega)
              have R1 : R ≤ 536735745 := by
                rw [← hR]
                have a1 : (c + g + 1) * ew.wt ≤ 131071 * ew.wt := Int.mul_le_mul_of_nonneg_right (by omega) (by omega)
                omega
              generalize hWT : ew.wt = W at *
              have HWT := Lib.hid hWT
              clear hWT
              generalize sv p = sp at *
              have fin1 : decide (R / 1024 + (1 + k) < sp + ns) = false := by simp; omega
              have u1w : IntKind.i64.wrap (c + g) = c + g := by rw [IntKind.wrap_i64]; omega
              have u2w : IntKind.i64.wrap (c + g + 1) = c + g + 1 := by rw [IntKind.wrap_i64]; omega
              go_wp2_with fail
              go_at_call 35; refine CU.out.mono ?_; rintro e w4 ⟨rfl, hg4⟩
              obtain ⟨c0, c1, c2, c3, c4⟩ := CEL.out _ hg4
              obtain ⟨hz4, hg14⟩ := hbw4.out _ hg4
              go_wp2_with fail
              go_at_call 27; refine (WK.out _ hg4).mono ?_; rintro e w3 ⟨rfl, hB3, hQ3, hs3⟩
              have hz3 := (hs3.block zb (.inr rfl)).trans hz4
              have hg13 := hg14.trans ((hs3.mono (fun j hj => .inl hj)).below)
              have zc3 : w3.cell? ⟨zb, p, none⟩ = some (.int .u64 sp) := by rw [cell_of_row w3 zb _ _ _ _ hz3]; simpa using zcell.out
              have zf3 : w3.frozen? ⟨zb, p, none⟩ = false := frozen_of_row w3 zb _ _ _ hz3
              have hz5 := Mem.set_block hz3 p (.int .u64 (sp + ns))
              simp only [List.setIfInBounds_toArray] at hz5
              rw [← SVP.out] at hz5
              have hB5 := hB3.on (w' := w3.setCell ⟨zb, p, none⟩ (.int .u64 (sp + ns))) (Below.heap_setCell _ _ _ _ (fun e => hzb.1 e))
              have hQ5 := hQ3.away (p := ⟨zb, p, none⟩) (.inl (.inr rfl)) (.int .u64 (sp + ns))
              have hg15 := hg13.setCell (p := ⟨zb, p, none⟩) hzb.2 (.int .u64 (sp + ns))
              clear c0 c1 c2 c3 c4 d0 d33 d34 d35 dz CU CEL WK hg4 hz4 hg14 hs3 hbw4
              go_upto_region 25 with fail
              clear hB3 hQ3 hz3 hg13 zc3 zf3
              generalize w3.setCell ⟨zb, p, none⟩ (.int .u64 (sp + ns)) = W5 at *
              obtain ⟨d0, d33, d34, d35, dz⟩ := hB5.cells
              obtain ⟨o0, o1, o2, o3⟩ := hB5.own HEO.out
              have EN5 := Lib.hid (EN.out W5 hQ5)
              have HB5 := Lib.hid hB5
              have NX5 := Lib.hid (NX.out W5 hg15 hB5 hQ5 hz5)
              have zc5 : ∀ w', Below W5.heap.size W5 w' → w'.cell? ⟨zb, p, none⟩ = some (.int .u64 (sp + ns)) := fun w' hg => by
                rw [cell_of_row w' zb _ _ _ _ (Mem.box_fresh hz5 hg), SVP.out]
                have hl : p < (cellsU sv).length := by simp [cellsU, hp8]
                simp [hl]
              have ZC5 := Lib.hid zc5
              clear EN NX hB5 hQ5 hz5 zc5 SVP
              go_wp2_with fail
              go_at_call 28; refine EN5.out.mono ?_; rintro e w6 ⟨lv, rfl, hr, hg6⟩
              obtain ⟨ao, cp, rfl, hao, hcp⟩ := hr.shape
              obtain ⟨f0, f33, f34, f35, fz⟩ := (HB5.out.fresh hg6).cells
              have zc6 := ZC5.out _ hg6
              clear d0 d33 d34 d35 dz o0 o1 o2 o3 EN5 HB5 ZC5
              generalize n'.st.es = es at *
              generalize eo.wt = ow at *
              go_wp2_with fail
              go_loopg [16, 18] es.length (fun left tw t wx => FindI w6 es.length ix W left tw t wx)
              case atStart => exact ⟨0, ow, by omega, rfl, rfl, rfl, by omega, rfl⟩
              case round =>
                obtain ⟨j2, u, hj2, rfl, rfl, rfl, hu, rfl⟩ := hrel
                by_cases hlj : j2 < es.length
                · have q3 : (j2 : Int) < es.length := by omega
                  obtain ⟨e, he⟩ : ∃ e, es[j2]? = some e := ⟨es[j2], by simp [hlj]⟩
                  obtain ⟨y0, y1, _, _⟩ := cellsE_at he
                  rcases hao with h0 | ⟨gg, rfl⟩
                  · omega
                  have r0 := hr.1.cellAt (j2 * 4) (by omega)
                  have r1 := hr.1.cellAt (j2 * 4 + 1) (by omega)
                  rw [y0] at r0
                  rw [y1] at r1
                  by_cases hid : e.id = (p : Int)
                  · have hew := UNIQ.out e (List.mem_of_getElem? he) hid
                    rw [hew, HWT.out] at r1
                    rw [hid] at r0
                    clear hew hid he y0 y1 UNIQ PIX HWT hR fin1 zc6 hu NX5
                    go_wp2_with fail
                    go_roundg (es.length - (j2 + 1))
                    case measure => omega
                    case rel => exact ⟨j2 + 1, W, by omega, by omega, rfl, by go_num, fun _ => rfl, rfl⟩
                  · have hne := PIX.out j2 e he hid
                    have hne' : (e.id == (p : Int)) = false := by simpa using hid
                    have hu' : ix < j2 + 1 → u = W := fun h => hu (by omega)
                    generalize e.id = eid at *
                    clear he y0 y1 UNIQ PIX HWT hR fin1 zc6 hu NX5 hid
                    go_wp2_with fail
                    go_roundg (es.length - (j2 + 1))
                    case measure => omega
                    case rel => exact ⟨j2 + 1, u, by omega, by omega, rfl, by go_num, fun h => hu' h, rfl⟩
                · obtain rfl : j2 = es.length := by omega
                  have q3 : ¬ (es.length : Int) < es.length := by omega
                  obtain rfl := hu hxl
                  clear UNIQ PIX HWT hr hao hu
                  have u3w : IntKind.u64.wrap (c + g + 1) = c + g + 1 := by rw [IntKind.wrap_u64]; omega
                  have u4w : IntKind.u64.wrap R = R := by rw [IntKind.wrap_u64]; omega
                  go_wp2_with fail
                  go_quiet (fail)
                  go_wp2_with fail
                  go_quiet (fail)
                  go_wp2_with fail
                  go_roundg (200 - (j + 1))
                  case measure => omega
                  case rel => exact NX5.out _ (hg6.trans ⟨rfl, rfl, rfl, Nat.le_refl _, fun _ _ => rfl⟩)
            · have hout : (who < 0) ∨ (0 ≤ who ∧ ¬ who < 8) := by omega
              have hsame : Hid (cellsU (fun i => sv i + if who = (i : Int) then ns else 0) = cellsU sv) := cellsU_same (fun i hi => by rw [if_neg (by omega), Int.add_zero])
              clear hroom S HHV
              rcases hout with o1 | ⟨o1, o2⟩
              · have o1' : decide (0 ≤ who) = false := by simpa using o1
                go_wp2_with fail
                go_at_call 35; refine CU.out.mono ?_; rintro e w4 ⟨rfl, hg4⟩
                obtain ⟨c0, c1, c2, c3, c4⟩ := CEL.out _ hg4
                obtain ⟨hz4, hg14⟩ := hbw4.out _ hg4
                go_wp2_with fail
                go_at_call 27; refine (WK.out _ hg4).mono ?_; rintro e w3 ⟨rfl, hB3, hQ3, hs3⟩
                go_wp2_with fail
                go_roundg (200 - (j + 1))
                case measure => omega
                case rel => exact NX.out w3 (hg14.trans ((hs3.mono (fun j hj => .inl hj)).below)) hB3 hQ3 (by rw [hsame.out]; exact (hs3.block zb (.inr rfl)).trans hz4) w3 (Below.refl _ _)
              · have o1' : decide (0 ≤ who) = true := by simpa using o1
                have o2' : decide (who < 8) = false := by simpa using o2
                go_wp2_with fail
                go_at_call 35; refine CU.out.mono ?_; rintro e w4 ⟨rfl, hg4⟩
                obtain ⟨c0, c1, c2, c3, c4⟩ := CEL.out _ hg4
                obtain ⟨hz4, hg14⟩ := hbw4.out _ hg4
                go_wp2_with fail
                go_at_call 27; refine (WK.out _ hg4).mono ?_; rintro e w3 ⟨rfl, hB3, hQ3, hs3⟩
                go_wp2_with fail
                go_roundg (200 - (j + 1))
                case measure => omega
                case rel => exact NX.out w3 (hg14.trans ((hs3.mono (fun j hj => .inl hj)).below)) hB3 hQ3 (by rw [hsame.out]; exact (hs3.block zb (.inr rfl)).trans hz4) w3 (Below.refl _ _)
          · have hd2 : (¬ (j : Int) < l2) ∨ ((j : Int) < l2 ∧ ¬ (j : Int) < 200) := by omega
            clear hB hQ hbw hBn hWt hlt hzz
            rcases hd2 with s1 | ⟨s1, s2⟩
            all_goals
              go_wp2_with fail
              go_ret
              exact ⟨rfl, hF.out⟩
end Go.Proofs.Ytfddefenmlcecaa.Queue
