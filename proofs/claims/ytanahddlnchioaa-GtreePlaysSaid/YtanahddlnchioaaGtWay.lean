/- The way up from a group: the closure that tells the next step. Conditions: none. -/
import Derived.Test.YtanahddlnchioaaGtPar
namespace Go.Proofs.Ytanahddlnchioaa.Gt
open Go.ChangeShapes Go.WideShapes Go.ChangeAt Go.RowKit Hp
set_option linter.unusedVariables false
set_option linter.unusedSimpArgs false

/-- Nothing but block a has changed, of what there was. -/
structure But (a : Nat) (w w' : World) : Prop where
  os : w'.os = w.os
  tape : w'.tape = w.tape
  output : w'.output = w.output
  size : w.heap.size ≤ w'.heap.size
  block : ∀ k, k < w.heap.size → k ≠ a → w'.heap[k]? = w.heap[k]?
theorem But.of {a : Nat} {w w' : World} (h : Below w.heap.size w w') : But a w w' := ⟨h.os, h.tape, h.output, h.size, fun k hk _ => h.block k hk⟩
theorem But.setCell {a : Nat} {w w' : World} (h : But a w w') {p : Addr} (hp : p.block = a ∨ w.heap.size ≤ p.block) (u : Value) : But a w (w'.setCell p u) :=
  ⟨h.os, h.tape, h.output, by simpa [World.setCell] using h.size, fun k hk hka => by
    rw [Below.heap_setCell _ _ _ _ (by rintro rfl; rcases hp with hp | hp; exact hka hp; omega)]; exact h.block k hk hka⟩
theorem But.below {a : Nat} {w0 w w' : World} (h : But a w w') (hb : Below w0.heap.size w0 w) (ha : w0.heap.size ≤ a) : Below w0.heap.size w0 w' :=
  ⟨h.os.trans hb.os, h.tape.trans hb.tape, h.output.trans hb.output, Nat.le_trans hb.size h.size, fun k hk => by rw [h.block k (Nat.lt_of_lt_of_le hk hb.size) (by omega)]; exact hb.block k hk⟩
theorem But.heap {a : Nat} {w w' : World} (h : But a w w') {k : Nat} {o : Obj} (hk : w.heap[k]? = some o) (hne : k ≠ a) : w'.heap[k]? = some o := by rw [h.block k (lt_of hk) hne, hk]
theorem Pool.but {a : Nat} {w w' : World} {b : Nat} {O : Nat → Prop} {st : St} (h : Pool w b O st) (hO : O a) (hB : But a w w') : Pool w' b O st := by
  obtain ⟨vp, vf, hb, ho, hp, hf⟩ := h
  exact ⟨vp, vf, hB.heap hb (fun e => ho (e ▸ hO)), ho, hp.on (fun k hk => hB.block k (hp.lt hk) (fun e => hp.2 k hk (e ▸ hO))), hf.on (fun k hk => hB.block k (hf.lt hk) (fun e => hf.2 k hk (e ▸ hO)))⟩
theorem Tre.but {a : Nat} {w w' : World} {tb b : Nat} {O : Nat → Prop} {st : St} (h : Tre w tb b O st) (hO : O a) (hB : But a w w') : Tre w' tb b O st :=
  ⟨hB.heap h.blk (fun e => h.out (e ▸ hO)), h.out, Pool.but h.pool (.inl hO) hB⟩
theorem Tre.with {w w' : World} {tb b a : Nat} {O : Nat → Prop} {st : St} (h : Tre w tb b O st) (ha : w.heap.size ≤ a) (hg : Below w.heap.size w w') : Tre w' tb b (With O a) st :=
  (h.other fun k hk => hk.elim .inl (fun e => .inr (e ▸ ha))).fresh hg

def Way (tp : Value) (i g : Int) (w : World) (e : Ending) (w' : World) : Prop :=
  e = .returned (.func (.func 56) #[] #[.pointer (some ⟨w.heap.size, 0, none⟩), .pointer (some ⟨w.heap.size + 2, 0, none⟩)]) ∧
  w'.heap[w.heap.size]? = some (.cells #[tp] 24 (0, 0)) ∧ w'.heap[w.heap.size + 2]? = some (.cells #[.int .i64 i, .int .i64 g] 34 (0, 0)) ∧ Below w.heap.size w w' ∧ w'.heap.size = w.heap.size + 3
theorem wayUp (w : World) (tp : Option Addr) (i g : Int) : Calls Try.prog 45 #[.pointer tp, .agg #[.int .i64 i, .int .i64 g]] w (Way (.pointer tp) i g w) := by
  have hmf : ∀ (fn : Fn) (first cap : Array Value) (w : World), (Instr.makeFunc fn first cap).run Try.prog w = .ok (.func fn first cap) w := fun _ _ _ _ => rfl
  go_enter Try.func45, Try.ntmps45
  go_wp2
  go_ret
  refine ⟨rfl, ?_, ?_, by go_grown, by simp⟩
  · rw [Below.heap_alloc _ _ _ (by simp; omega), Below.heap_alloc _ _ _ (by simp), heap_alloc_new]
  · rw [show w.heap.size + 2 = ((w.alloc (.cells #[.pointer tp] 24)).alloc (.cells #[.int .i64 i, .int .i64 g] 34)).heap.size by simp, heap_alloc_new]

/-- The closure's two boxes. -/
structure Boxes (w : World) (x a tb b : Nat) (O : Nat → Prop) (st : St) (i g : Int) : Prop where
  tree : Tre w tb b O st
  tp : w.heap[x]? = some (.cells #[.pointer (some ⟨tb, 0, none⟩)] 24 (0, 0))
  pos : w.heap[a]? = some (.cells #[.int .i64 i, .int .i64 g] 34 (0, 0))
  out : O a
theorem Boxes.ne {w : World} {x a tb b : Nat} {O : Nat → Prop} {st : St} {i g : Int} (h : Boxes w x a tb b O st i g) : x ≠ a := by
  rintro rfl
  have := h.tp.symm.trans h.pos
  simp at this
theorem Boxes.fresh {w w' : World} {x a tb b : Nat} {O : Nat → Prop} {st : St} {i g : Int} (h : Boxes w x a tb b O st i g) (hg : Below w.heap.size w w') : Boxes w' x a tb b O st i g :=
  ⟨h.tree.fresh hg, heap_fresh h.tp hg, heap_fresh h.pos hg, h.out⟩
theorem one1 {w : World} {b : Nat} {x : Value} {t : TypeId} (hb : w.heap[b]? = some (.cells #[x] t (0, 0))) : w.cell? ⟨b, 0, none⟩ = some x := by
  rw [cell_of_row w b _ _ _ _ hb]; rfl

def Ups1 (x y : Int) (a : Nat) (k : World → Prop) (w : World) (e : Ending) (w' : World) : Prop :=
  e = .returned (.tuple #[.agg #[.int .i64 x, .int .i64 y], .bool true]) ∧ But a w w' ∧ k w'
theorem next_none (w : World) (x a tb b : Nat) (O : Nat → Prop) (st : St) (h : Boxes w x a tb b O st 0 0) (h1 : st.pl.length ≤ 4096) (hn : st.names 0 0 = true) :
    Calls Try.prog 56 #[.pointer (some ⟨x, 0, none⟩), .pointer (some ⟨a, 0, none⟩)] w (fun e w' => e = .returned (.tuple #[.agg #[.int .i64 0, .int .i64 0], .bool false]) ∧ Below w.heap.size w w') := by
  have P : Hid _ := fun w h => parent_root w tb b O st h h1 hn
  clear hn
  have c0 := cell_alloc (one1 h.tp)
  obtain ⟨d0, d1, dz⟩ := box2a h.pos
  go_enter Try.func56, Try.ntmps56
  go_wp2_with (go_at_call 40; refine (P.out _ (h.tree.fresh (alloc1 _ _))).mono ?_; rintro e w1 ⟨rfl, hg1⟩; have r := heap_fresh (heap_alloc_new w _) hg1; have hg := fresh_trans (alloc1 _ _) hg1; clear hg1; obtain ⟨r0, r1, rz⟩ := box2 r; obtain ⟨s0, s1, sz⟩ := box2a r)
  refine bodyPost_ret (v := .tuple #[.agg #[.int .i64 0, .int .i64 0], .bool false]) (by simp [results, Try.results56, go_sem, r0, r1, s0, s1]) rfl ?_
  exact ⟨rfl, by have := hg.size; go_grown⟩
theorem next_end {w w1 : World} {x a tb b : Nat} {O : Nat → Prop} {st : St} {i g : Int} (h : Boxes w x a tb b O st i g) (hg : Below w.heap.size w w1) (hat : w1.heap[a]? = some (.cells #[.int .i64 i, .int .i64 g] 34 (0, 0))) (p q : Int) (o : Obj) :
    Ups1 p q a (fun w' => Boxes w' x a tb b O st p q) w (.returned (.tuple #[.agg #[.int .i64 p, .int .i64 q], .bool true]))
      (((((w1.alloc o).setCell ⟨a, 0, none⟩ (.int .i64 p)).setCell ⟨a, 1, none⟩ (.int .i64 q)).setCell ⟨w.heap.size, 0, none⟩ (.int .i64 p)).setCell ⟨w.heap.size, 1, none⟩ (.int .i64 q)) := by
  have ha := lt_of h.pos
  have B1 := (But.of (a := a) (hg.alloc hg.size o)).setCell (p := ⟨a, 0, none⟩) (.inl rfl) (.int .i64 p)
  have B2 := B1.setCell (p := ⟨a, 1, none⟩) (.inl rfl) (.int .i64 q)
  have B3 := B2.setCell (p := ⟨w.heap.size, 0, none⟩) (.inr (Nat.le_refl _)) (.int .i64 p)
  have hB := B3.setCell (p := ⟨w.heap.size, 1, none⟩) (.inr (Nat.le_refl _)) (.int .i64 q)
  refine ⟨rfl, hB, h.tree.but h.out hB, hB.heap h.tp h.ne, ?_, h.out⟩
  have e1 : (w1.alloc o).heap[a]? = _ := (Below.heap_alloc w1 o a (lt_of hat)).trans hat
  have e2 := set_block (set_block e1 0 (.int .i64 p)) 1 (.int .i64 q)
  rw [Below.heap_setCell _ _ _ _ (by simp only; omega), Below.heap_setCell _ _ _ _ (by simp only; omega), e2]
  rfl
theorem next_some (w : World) (x a tb b : Nat) (O : Nat → Prop) (st : St) (i g : Int) (h : Boxes w x a tb b O st i g) (h1 : st.pl.length ≤ 4096) (hn : st.names i g = true) (hr : isRoot i g = false) :
    Calls Try.prog 56 #[.pointer (some ⟨x, 0, none⟩), .pointer (some ⟨a, 0, none⟩)] w (Ups1 (st.thing i g) (st.tgen i g) a (fun w' => Boxes w' x a tb b O st (st.thing i g) (st.tgen i g)) w) := by
  have P : Hid _ := fun w h => parent_some w tb b O st i g h h1 hn hr
  clear hn hr
  have c0 := cell_alloc (one1 h.tp)
  obtain ⟨d0, d1, dz⟩ := box2a h.pos
  have ha := lt_of h.pos
  generalize st.thing i g = p at *
  generalize st.tgen i g = q at *
  go_enter Try.func56, Try.ntmps56
  go_wp2_with (go_at_call 40; refine (P.out _ (h.tree.fresh (alloc1 _ _))).mono ?_; rintro e w1 ⟨rfl, hg1⟩; have r := heap_fresh (heap_alloc_new w _) hg1; have hg := fresh_trans (alloc1 _ _) hg1; clear hg1; obtain ⟨s0, s1, sz⟩ := box2a r; have hat := heap_fresh h.pos hg; obtain ⟨t0, t1, tz⟩ := box2a hat)
  refine bodyPost_ret (v := .tuple #[.agg #[.int .i64 p, .int .i64 q], .bool true]) (by simp [results, Try.results56, go_sem, s0, s1]) rfl ?_
  exact next_end h hg hat p q _
/-- What next asks of its caller, at the start. -/
theorem Way.boxes {w w' : World} {tb b : Nat} {O : Nat → Prop} {st : St} {i g : Int} {e : Ending} (h : Way (.pointer (some ⟨tb, 0, none⟩)) i g w e w') (ht : Tre w tb b O st) : Boxes w' w.heap.size (w.heap.size + 2) tb b (With O (w.heap.size + 2)) st i g :=
  ⟨ht.with (by omega) h.2.2.2.1, h.2.1, h.2.2.1, .inr rfl⟩

/-- The way up, as a list: from a group to the root. -/
inductive Ups (st : St) : Int → Int → List (Int × Int) → Prop
  | root : st.names 0 0 = true → Ups st 0 0 []
  | step {i g : Int} {l : List (Int × Int)} : st.names i g = true → isRoot i g = false → Ups st (st.thing i g) (st.tgen i g) l → Ups st i g ((st.thing i g, st.tgen i g) :: l)
theorem isRoot_zero : isRoot 0 0 = true := by decide
theorem isRoot_eq {i g : Int} (h : isRoot i g = true) : i = 0 ∧ g = 0 := by simpa [isRoot] using h
theorem Ups.named {st : St} {i g : Int} {l : List (Int × Int)} (h : Ups st i g l) : st.names i g = true := by cases h <;> assumption
theorem Ups.nil {st : St} {i g : Int} (h : Ups st i g []) : i = 0 ∧ g = 0 ∧ st.names 0 0 = true := by cases h; exact ⟨rfl, rfl, by assumption⟩
theorem Ups.cons {st : St} {i g : Int} {p : Int × Int} {l : List (Int × Int)} (h : Ups st i g (p :: l)) : st.names i g = true ∧ isRoot i g = false ∧ p = (st.thing i g, st.tgen i g) ∧ Ups st (st.thing i g) (st.tgen i g) l := by
  cases h; exact ⟨by assumption, by assumption, rfl, by assumption⟩
def hd (l : List (Int × Int)) : Int × Int := l.head?.getD (0, 0)
def up (l : List (Int × Int)) : Bool := !l.isEmpty
def Nxt (l : List (Int × Int)) (x a tb b : Nat) (O : Nat → Prop) (st : St) (w : World) (e : Ending) (w' : World) : Prop :=
  e = .returned (.tuple #[.agg #[.int .i64 (hd l).1, .int .i64 (hd l).2], .bool (up l)]) ∧ But a w w' ∧ ∃ i' g', Boxes w' x a tb b O st i' g' ∧ Ups st i' g' l.tail ∧ (up l = true → (i', g') = hd l)
theorem next (w : World) (x a tb b : Nat) (O : Nat → Prop) (st : St) (i g : Int) (l : List (Int × Int)) (h : Boxes w x a tb b O st i g) (h1 : st.pl.length ≤ 4096) (hu : Ups st i g l) :
    Calls Try.prog 56 #[.pointer (some ⟨x, 0, none⟩), .pointer (some ⟨a, 0, none⟩)] w (Nxt l x a tb b O st w) := by
  cases l with
  | nil =>
    obtain ⟨rfl, rfl, hn⟩ := hu.nil
    exact (next_none w x a tb b O st h h1 hn).mono fun e w' ⟨he, hg⟩ => ⟨he, But.of hg, 0, 0, h.fresh hg, .root hn, fun h => by simp [up] at h⟩
  | cons p l =>
    obtain ⟨hn, hr, rfl, hu'⟩ := hu.cons
    exact (next_some w x a tb b O st i g h h1 hn hr).mono fun e w' ⟨he, hB, hb⟩ => ⟨he, hB, _, _, hb, hu', fun _ => rfl⟩
end Go.Proofs.Ytanahddlnchioaa.Gt
