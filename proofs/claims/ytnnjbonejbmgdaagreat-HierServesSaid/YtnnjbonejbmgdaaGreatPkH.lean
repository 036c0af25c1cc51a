/- Rows in memory, held apart from other blocks; what is in a set of blocks is as it was. Conditions: none. -/
import Derived.Test.YtnnjbonejbmgdaaGreatRows
import Derived.WalkKit
import Derived.ProofKit
import Derived.OpenShut
import Derived.Below
import Derived.WalkSmall
import Derived.Deep.AppendLies
import Derived.Maps.AppendAt
import Derived.Test.YtnnjbonejbmgdaaGreatPkF
import Derived.Test.YtnnjbonejbmgdaaGreatPkG
import Derived.RangeFuncNested
import Derived.RangeFuncBound
import Derived.RangeFuncCalls
import Derived.RangeFuncLeaves
import Derived.Shelf.Abstract
import Derived.Shelf.RegionOpen
import Derived.OwnWalkIn
import Derived.TacticsInMore
import Derived.LoopNIn
import Derived.LoopIn
import Derived.Test.YtnnjbonejbmgdaaGreatPkE
import Derived.BigQuiet
import Derived.RegionCalls
import Derived.Deep.RegionHeld3
namespace Go.Proofs.YtnnjbonejbmgdaaGreat.Mem
open Go.ChangeShapes Go.WideShapes Go.ChangeAt Go.RowKit
set_option linter.unusedVariables false
set_option linter.unusedSimpArgs false

/-- A row in memory that lies in no block of O. -/
def Row (w : World) (O : Nat → Prop) (e : TypeId) (size : Nat) (v : Value) (n : Nat) (xs : List Value) : Prop := w.ownsRow 0 e size v n xs ∧ ∀ k, v.ownBlock = some k → ¬ O k
/-- What is in the blocks of O is as it was. -/
structure Same (O : Nat → Prop) (w w' : World) : Prop where
  os : w'.os = w.os
  tape : w'.tape = w.tape
  output : w'.output = w.output
  size : w.heap.size ≤ w'.heap.size
  block : ∀ k, O k → w'.heap[k]? = w.heap[k]?

theorem Same.refl (O : Nat → Prop) (w : World) : Same O w w := ⟨rfl, rfl, rfl, Nat.le_refl _, fun _ _ => rfl⟩
theorem Same.trans {O : Nat → Prop} {a b c : World} (h : Same O a b) (k : Same O b c) : Same O a c :=
  ⟨k.os.trans h.os, k.tape.trans h.tape, k.output.trans h.output, Nat.le_trans h.size k.size, fun i hi => (k.block i hi).trans (h.block i hi)⟩
theorem Same.mono {O O' : Nat → Prop} {a b : World} (h : Same O a b) (k : ∀ i, O' i → O i) : Same O' a b := ⟨h.os, h.tape, h.output, h.size, fun i hi => h.block i (k i hi)⟩
theorem Same.of {O : Nat → Prop} {a b : World} (h : Below a.heap.size a b) (k : ∀ i, O i → i < a.heap.size) : Same O a b := ⟨h.os, h.tape, h.output, h.size, fun i hi => h.block i (k i hi)⟩
theorem Same.below {a b : World} {B : Nat} (h : Same (· < B) a b) : Below B a b := ⟨h.os, h.tape, h.output, h.size, h.block⟩
theorem Same.grown {O : Nat → Prop} {a w w' : World} {row : Option Nat} (h : Same O a w) (hg : w.grownBy w' row) (hB : ∀ k, O k → k < w.heap.size) (hr : ∀ k, row = some k → ¬ O k) : Same O a w' :=
  h.trans ⟨hg.os, hg.tape, hg.output, hg.size, fun k hk => hg.block k (hB k hk) (fun e => hr k e.symm hk)⟩
theorem Same.setCell {O : Nat → Prop} {a w : World} (h : Same O a w) {p : Addr} (hp : ¬ O p.block) (u : Value) : Same O a (w.setCell p u) :=
  h.trans ⟨rfl, rfl, rfl, by simp [World.setCell], fun k hk => Below.heap_setCell _ _ _ _ (fun e => hp (e ▸ hk))⟩
theorem Same.drew {O : Nat → Prop} {a w : World} (h : Same O a w) : Same O a w.drew := ⟨h.os, h.tape, h.output, h.size, h.block⟩
theorem Same.drewN {O : Nat → Prop} {a w : World} (h : Same O a w) (n : Nat) : Same O a (w.drewN n) := ⟨h.os, h.tape, h.output, h.size, h.block⟩
theorem Same.alloc {O : Nat → Prop} {a w : World} (h : Same O a w) (hB : ∀ k, O k → k < w.heap.size) (o : Obj) : Same O a (w.alloc o) :=
  h.trans ⟨rfl, rfl, rfl, by simp, fun k hk => Below.heap_alloc _ _ _ (hB k hk)⟩

theorem fresh_trans {a b c : World} (h : Below a.heap.size a b) (k : Below b.heap.size b c) : Below a.heap.size a c := h.trans (k.mono h.size)
theorem drawn (w : World) (n : Nat) : Below w.heap.size w (w.drewN n) := ⟨rfl, rfl, rfl, Nat.le_refl _, fun _ _ => rfl⟩
theorem lt_of {w : World} {k : Nat} {o : Obj} (h : w.heap[k]? = some o) : k < w.heap.size := (Array.getElem?_eq_some_iff.1 h).1
theorem alloc1 (w : World) (o : Obj) : Below w.heap.size w (w.alloc o) := (Below.refl _ w).alloc (Nat.le_refl _) o
theorem cell_alloc {w : World} {a : Addr} {v : Value} (h : w.cell? a = some v) (o : Obj) : (w.alloc o).cell? a = some v :=
  (World.cell?_of_block (Below.heap_alloc w o a.block (World.block_lt_of_cell? w a h))).trans h
theorem cell_fresh {w w' : World} {a : Addr} {v : Value} (h : w.cell? a = some v) (hg : Below w.heap.size w w') : w'.cell? a = some v := (hg.cell (World.block_lt_of_cell? w a h)).trans h
theorem info_parts {o : Option TypeInfo} {z : Option Value} {s b : Nat} (h : o.map (fun i => (i.zero, i.size, i.bytes)) = some (z, s, b)) : ∃ i, o = some i ∧ i.zero = z ∧ i.size = s ∧ i.bytes = b := by
  cases o with
  | none => simp at h
  | some i => simp at h; exact ⟨i, rfl, h.1, h.2.1, h.2.2⟩
theorem add_at (b o j : Nat) : (⟨b, o, none⟩ : Addr).add j = ⟨b, o + j, none⟩ := by unfold Addr.add; split <;> simp_all

section
variable {w w' : World} {O : Nat → Prop} {e : TypeId} {size : Nat} {v : Value} {n : Nat} {xs : List Value}
theorem Row.lt (h : Row w O e size v n xs) {k : Nat} (hk : v.ownBlock = some k) : k < w.heap.size := (h.1.lt k hk).2
theorem Row.on (h : Row w O e size v n xs) (hb : ∀ k, v.ownBlock = some k → w'.heap[k]? = w.heap[k]?) : Row w' O e size v n xs := by
  refine ⟨⟨h.1.1, ?_⟩, h.2⟩
  rcases h.1.2 with h1 | ⟨g, cap, cur, rfl, h0, hg, h1⟩
  · exact .inl h1
  · exact .inr ⟨g, cap, cur, rfl, h0, by rw [hb g rfl, hg], h1⟩
theorem Row.fresh (h : Row w O e size v n xs) (hb : Below w.heap.size w w') : Row w' O e size v n xs := h.on fun k hk => hb.block k (h.lt hk)
theorem Row.other (h : Row w O e size v n xs) {O' : Nat → Prop} (hb : ∀ k, v.ownBlock = some k → ¬ O' k) : Row w O' e size v n xs := ⟨h.1, hb⟩
theorem own_ne {B : Nat} (h : w.ownsRow B e size v n xs) {b : Nat} {cur : Array Value} {t : TypeId} {f : Nat × Nat} (hb : w.heap[b]? = some (.cells cur t f)) (hne : e ≠ t) : v.ownBlock ≠ some b := by
  intro hk
  rcases h.2 with ⟨rfl, _⟩ | ⟨g, cap, cur', rfl, _, hh, _⟩
  · cases hk
  · simp [Value.ownBlock] at hk
    subst hk
    rw [hh] at hb
    simp at hb
    exact hne hb.2.1
theorem owns_fresh {B : Nat} (h : w.ownsRow B e size v n xs) (hB : Below w.heap.size w w') : w'.ownsRow B e size v n xs := by
  refine ⟨h.1, ?_⟩
  rcases h.2 with h1 | ⟨g, cap, cur, rfl, h0, hg, h1⟩
  · exact .inl h1
  · exact .inr ⟨g, cap, cur, rfl, h0, by rw [hB.block g (lt_of hg), hg], h1⟩
theorem owns_lower {B B' : Nat} (h : w.ownsRow B e size v n xs) (hB : B' ≤ B) : w.ownsRow B' e size v n xs := by
  refine ⟨h.1, ?_⟩
  rcases h.2 with h1 | ⟨g, cap, cur, h1, h2, h3⟩
  · exact .inl h1
  · exact .inr ⟨g, cap, cur, h1, Nat.le_trans hB h2, h3⟩
theorem owns_same {B : Nat} (hown : w.ownsRow B e size v n xs) (hs : Same O w w') (hv : ∀ k, v.ownBlock = some k → O k) : w'.ownsRow B e size v n xs := by
  refine ⟨hown.1, ?_⟩
  rcases hown.2 with h1 | ⟨g, cap, cur, rfl, h0, hg, h1⟩
  · exact .inl h1
  · exact .inr ⟨g, cap, cur, rfl, h0, by rw [hs.block g (hv g rfl), hg], h1⟩
theorem owns_shape {B : Nat} (hown : w.ownsRow B e size v n xs) : ∃ ao cap, v = .slice ao n cap := by
  rcases hown.2 with ⟨rfl, rfl⟩ | ⟨g, cap, cur, rfl, _⟩
  · exact ⟨none, 0, rfl⟩
  · exact ⟨_, cap, rfl⟩
theorem row_cell {B : Nat} {x : Value} {k : Nat} (h : w.ownsRow B e 1 v n xs) (hk : xs[k]? = some x) :
    ∃ g c, v = .slice (some ⟨g, 0, none⟩) n c ∧ w.cell? ⟨g, k, none⟩ = some x ∧ w.frozen? ⟨g, k, none⟩ = false ∧ B ≤ g ∧ g < w.heap.size := by
  have hl := h.1
  have hk1 := (List.getElem?_eq_some_iff.1 hk).1
  obtain ⟨g, c, rfl, hb, hg⟩ := h.form (by omega)
  exact ⟨g, c, rfl, by rw [h.cellAt _ (by omega), hk], h.frozenAt _, hb, hg⟩
end

theorem one_grown (w : World) (b j : Nat) (x : Value) : w.grownBy (w.setCell ⟨b, j, none⟩ x) (some b) := ⟨rfl, rfl, rfl, by simp [World.setCell], fun k _ hk => Below.heap_setCell _ _ _ _ (fun e => hk (by simp [e]))⟩
theorem box_new {w2 : World} {b : Nat} {o o' : Obj} (h : w2.heap[b]? = some o) : (w2.alloc o').heap[b]? = some o := by
  rw [Below.heap_alloc _ _ _ (lt_of h)]; exact h
theorem box_fresh {w w' : World} {b : Nat} {o : Obj} (h : w.heap[b]? = some o) (hg : Below w.heap.size w w') : w'.heap[b]? = some o := (hg.block b (lt_of h)).trans h
theorem grown_alloc {a b : World} {o : Obj} {row : Option Nat} (hg : (a.alloc o).grownBy b row) : a.grownBy b row :=
  ⟨hg.os, hg.tape, hg.output, by have := hg.size; simp at this; omega, fun k hk hne => by rw [hg.block k (by simp; omega) hne, Below.heap_alloc _ _ _ hk]⟩
theorem box_kept {w w' : World} {b : Nat} {o : Obj} {row : Option Nat} (h : w.heap[b]? = some o) (hg : w.grownBy w' row) (hne : row ≠ some b) : w'.heap[b]? = some o := by
  rw [hg.block b (lt_of h) (fun e => hne e.symm)]; exact h
theorem kept_own {a b : World} {B : Nat} {e : TypeId} {n : Nat} {g c k : Nat} {xs : List Value} (h : a.ownsRow B e 1 (.slice (some ⟨g, 0, none⟩) n c) n xs) (hg : a.grownBy b (some k)) (hne : g ≠ k) : b.ownsRow B e 1 (.slice (some ⟨g, 0, none⟩) n c) n xs :=
  h.kept hg (.inr (by simpa [Value.ownBlock] using hne))
theorem made {W : World} {base : Nat} {e : TypeId} {g0 : Nat} (h : W.heap.size = g0) (hb : base ≤ g0) : (W.alloc (.cells #[] e)).ownsRow base e 1 (.slice (some ⟨g0, 0, none⟩) 0 0) 0 [] := by
  subst h
  exact World.ownsRow_made W #[] 0 hb (by simp [maxLen]) rfl
theorem set_block {w : World} {b : Nat} {c : Array Value} {t : TypeId} (hb : w.heap[b]? = some (.cells c t (0, 0))) (j : Nat) (u : Value) : (w.setCell ⟨b, j, none⟩ u).heap[b]? = some (.cells (c.setIfInBounds j u) t (0, 0)) :=
  heap_setCell_same w b j c t u hb
theorem blk_ne {w : World} {b b' : Nat} {cur cur' : Array Value} {t t' : TypeId} {f f' : Nat × Nat} (h : w.heap[b]? = some (.cells cur t f)) (h' : w.heap[b']? = some (.cells cur' t' f')) (hne : t ≠ t') : b ≠ b' := by
  intro e
  subst e
  rw [h] at h'
  simp at h'
  exact hne h'.2.1
theorem list_set_eq {l : List Value} {i : Nat} {v : Value} (h : l[i]? = some v) : l.set i v = l := by
  apply List.ext_getElem?
  intro j
  rw [List.getElem?_set]
  split
  · rename_i e; subst e; rw [if_pos (List.getElem?_eq_some_iff.1 h).1, h]
  · rfl
theorem five {w : World} {b : Nat} {a0 a1 a2 a3 a4 : Value} {t : TypeId} (hb : w.heap[b]? = some (.cells #[a0, a1, a2, a3, a4] t (0, 0))) :
    w.cell? ⟨b, 0, none⟩ = some a0 ∧ w.cell? ⟨b, 1, none⟩ = some a1 ∧ w.cell? ⟨b, 2, none⟩ = some a2 ∧ w.cell? ⟨b, 3, none⟩ = some a3 ∧ w.cell? ⟨b, 4, none⟩ = some a4 ∧ (∀ j, w.frozen? ⟨b, j, none⟩ = false) := by
  refine ⟨?_, ?_, ?_, ?_, ?_, fun j => frozen_of_row w b j _ _ hb⟩
  all_goals rw [cell_of_row w b _ _ _ _ hb]; rfl
theorem four {w : World} {b : Nat} {a0 a1 a2 a3 : Value} {t : TypeId} (hb : w.heap[b]? = some (.cells #[a0, a1, a2, a3] t (0, 0))) :
    w.cell? ⟨b, 0, none⟩ = some a0 ∧ w.cell? ⟨b, 1, none⟩ = some a1 ∧ w.cell? ⟨b, 2, none⟩ = some a2 ∧ w.cell? ⟨b, 3, none⟩ = some a3 ∧ (∀ j, w.frozen? ⟨b, j, none⟩ = false) := by
  refine ⟨?_, ?_, ?_, ?_, fun j => frozen_of_row w b j _ _ hb⟩
  all_goals rw [cell_of_row w b _ _ _ _ hb]; rfl
theorem three {w : World} {b : Nat} {a0 a1 a2 : Value} {t : TypeId} (hb : w.heap[b]? = some (.cells #[a0, a1, a2] t (0, 0))) :
    w.cell? ⟨b, 0, none⟩ = some a0 ∧ w.cell? ⟨b, 1, none⟩ = some a1 ∧ w.cell? ⟨b, 2, none⟩ = some a2 ∧ (∀ j, w.frozen? ⟨b, j, none⟩ = false) := by
  refine ⟨?_, ?_, ?_, fun j => frozen_of_row w b j _ _ hb⟩
  all_goals rw [cell_of_row w b _ _ _ _ hb]; rfl
theorem two {w : World} {b : Nat} {x y : Value} {t : TypeId} (hb : w.heap[b]? = some (.cells #[x, y] t (0, 0))) : w.cell? ⟨b, 0, none⟩ = some x ∧ w.cell? ⟨b, 1, none⟩ = some y ∧ (∀ j, w.frozen? ⟨b, j, none⟩ = false) := by
  refine ⟨?_, ?_, fun j => frozen_of_row w b j _ _ hb⟩
  all_goals rw [cell_of_row w b _ _ _ _ hb]; rfl

/-- O, and one block more. -/
def With (O : Nat → Prop) (k : Nat) : Nat → Prop := fun i => O i ∨ i = k
theorem Same.without {w w' : World} {k : Nat} {O : Nat → Prop} (h : Same (With O k) w w') : Same O w w' := h.mono fun _ => .inl
theorem with_alloc {w : World} {O : Nat → Prop} (hO : ∀ k, O k → k < w.heap.size) (o : Obj) : ∀ k, With O w.heap.size k → k < (w.alloc o).heap.size := by
  rintro k (hk | rfl)
  · have := hO k hk; simp; omega
  · simp

/-- A slice of the call's own, not nil, appended to from a row that lies in memory, nil or not. -/
theorem wpList_append_copy {P : Program} (w : World) {ops : Array Oper} {rest : List Oper} {o : Oper} {a : Act} {Q : Exit → Act → World → Prop} (hgd : o.guard = none) (s x : Operand) (t : TypeId)
    (ho : o.op = .call { callee := .builtin .append, args := #[s, x], argTypes := #[t, t] })
    (base : Nat) (e : TypeId) (i : TypeInfo) (z : Value) (size bytes : Nat) (ht : P.underlying t = some (.slice e)) (hi : P.info? e = some i) (hz : i.zero = some z)
    (hsize : i.size = size) (hby : i.bytes = bytes) (hzs : z.cells.size = size) (hsz : 0 < size)
    (g0 n c0 : Nat) (xs : List Value) (hs : a.eval s = .slice (some ⟨g0, 0, none⟩) n c0) (hown : w.ownsRow base e size (.slice (some ⟨g0, 0, none⟩) n c0) n xs)
    (b2 : Nat) (u : Value) (m : Nat) (ys : List Value) (hx : a.eval x = u) (hu : w.ownsRow b2 e size u m ys) (h1 : ∀ y ∈ ys, y.oneCell' = true)
    (h63 : n + m ≤ maxLen) (hbytes : (n + m) * bytes ≤ 140737488355328) (hbase : base ≤ w.heap.size) (H : Nat) (hH : w.heap.size = H)
    (h : ∀ g cap w', w'.ownsRow base e size (.slice (some ⟨g, 0, none⟩) (n + m) cap) (n + m) (xs ++ ys) → w.grownBy w' (some g0) → (g = g0 ∨ g = H) → wpList P ops Q rest (a.put o.dst (.slice (some ⟨g, 0, none⟩) (n + m) cap)) w') :
    wpList P ops Q (o :: rest) a w := by
  rcases hu.2 with ⟨rfl, rfl⟩ | ⟨g, cap, cur, rfl, _, hg, _⟩
  · have hys : ys = [] := List.eq_nil_of_length_eq_zero (by simpa using hu.1)
    subst hys
    refine wpList_plain hgd fun K hK' => ?_
    have hrun := run_append_owned_none (P := P) w base t o.type e i size ht hi _ n xs hown
    unfold Oper.wp
    simp [execOp, ho, resolve, invoke, builtin, hs, hx, hrun, Result.andThen]
    exact hK' _ _ (by simpa using h g0 c0 w (by simpa using hown) (World.grownBy.refl _ _) (.inl rfl))
  · refine wpList_append_own_at w hgd s x t ho base e i z size bytes ht hi hz hsize hby hzs hsz _ n xs hs hown ⟨g, 0, none⟩ m cap ys hx hu.1 (hu.cells rfl) h1 h63 hbytes hbase ?_
    intro v' w' k1 k2 k3 k4
    rcases k1.2 with ⟨rfl, _⟩ | ⟨g', cap', cur', rfl, _⟩
    · have := k3.1 rfl
      simp at this
    · refine h g' cap' w' k1 k2 ?_
      rcases k4 with k4 | k4
      · exact .inl (by simpa [Value.ownBlock] using k4)
      · exact .inr (by rw [← hH]; simpa [Value.ownBlock] using k4)
end Go.Proofs.YtnnjbonejbmgdaaGreat.Mem

/- The queues of one P within one another as plain data, and what keeps them sound; nothing of a program. Conditions: none. -/
namespace Go.Proofs.YtnnjbonejbmgdaaGreat.Hr
open Queue
set_option linter.unusedVariables false
set_option linter.unusedSimpArgs false

/-- A group that is there: within which one, its queue, its own entity, whether that stands in a queue, whether it is stopped. -/
structure Gp where
  up : Option Nat
  q : St
  own : Ent
  on : Bool
  halt : Bool
structure Hs where
  cr : Int
  gr : Int
  g : Nat → Option Gp
def Hs.set (S : Hs) (i : Nat) (x : Option Gp) : Hs := { S with g := fun j => if j = i then x else S.g j }
theorem Hs.set_same (S : Hs) (i : Nat) (x : Option Gp) : (S.set i x).g i = x := by simp [Hs.set]
theorem Hs.set_other (S : Hs) {i j : Nat} (x : Option Gp) (h : j ≠ i) : (S.set i x).g j = S.g j := by simp [Hs.set, h]
theorem Hs.set_cr (S : Hs) (i : Nat) (x : Option Gp) : (S.set i x).cr = S.cr := rfl
theorem Hs.set_gr (S : Hs) (i : Nat) (x : Option Gp) : (S.set i x).gr = S.gr := rfl
def Hs.setQ (S : Hs) (i : Nat) (st : St) : Hs := { S with g := fun j => if j = i then (S.g i).map (fun x => { x with q := st }) else S.g j }
theorem Hs.setQ_eq {S : Hs} {i : Nat} {x : Gp} (h : S.g i = some x) (st : St) : S.setQ i st = S.set i (some { x with q := st }) := by simp [Hs.setQ, Hs.set, h]

def OkE (e : Ent) : Prop := 2 ≤ e.wt ∧ e.wt ≤ 262144 ∧ 0 ≤ e.rm ∧ e.rm < e.wt ∧ I64 e.v
def gid (i : Nat) : Int := 2 * (i : Int) + 1
/-- What is so of groups within one another; dep: how deep each is. -/
structure GoodD (dep : Nat → Nat) (S : Hs) : Prop where
  cr : I64 S.cr
  gr : I64 S.gr
  root : ∃ x, S.g 0 = some x ∧ x.up = none ∧ x.on = false
  few : ∀ i x, S.g i = some x → i < 32
  dep0 : dep 0 = 0
  deep : ∀ i x, S.g i = some x → dep i ≤ 8
  link : ∀ i x, S.g i = some x → i ≠ 0 → ∃ p y, x.up = some p ∧ S.g p = some y ∧ dep i = dep p + 1
  own : ∀ i x, S.g i = some x → i ≠ 0 → x.own.id = gid i ∧ OkE x.own
  q : ∀ i x, S.g i = some x → Sound x.q
  ids : ∀ i x, S.g i = some x → ∀ e ∈ x.q.es, e.id < 128
  inn : ∀ i x, S.g i = some x → ∀ e ∈ x.q.es, e.id % 2 = 1 → ∃ j y, e.id = gid j ∧ S.g j = some y ∧ y.up = some i ∧ y.on = true
  out : ∀ i x, S.g i = some x → x.on = true → ∃ p y, x.up = some p ∧ S.g p = some y ∧ named y.q.es (gid i) = true
  cur : ∀ i x, S.g i = some x → x.q.cur = -1 ∨ named x.q.es x.q.cur = true
def Good (S : Hs) : Prop := ∃ dep, GoodD dep S

def busy (x : Gp) : Bool := !x.q.es.isEmpty
def should (x : Gp) : Bool := busy x && !x.halt
/-- All but some are settled. -/
def Settled (S : Hs) (but : Nat → Prop) : Prop := ∀ i x, S.g i = some x → i ≠ 0 → ¬ but i → x.on = should x

theorem gid_inj {i j : Nat} (h : gid i = gid j) : i = j := by unfold gid at h; omega
theorem named_of {es : List Ent} {id : Int} (h : named es id = true) : ∃ e ∈ es, e.id = id := by
  obtain ⟨f1, f2⟩ := find_of h
  exact ⟨_, f1, f2⟩
theorem named_mem {es : List Ent} {e : Ent} (h : e ∈ es) : named es e.id = true := List.any_eq_true.2 ⟨e, h, by simp⟩
theorem gid_odd (i : Nat) : gid i % 2 = 1 := by unfold gid; omega
theorem GoodD.up_ne {dep : Nat → Nat} {S : Hs} (h : GoodD dep S) {i p : Nat} {x : Gp} (hx : S.g i = some x) (hp : x.up = some p) : p ≠ i ∧ i ≠ 0 := by
  have h0 : i ≠ 0 := by
    rintro rfl
    obtain ⟨r, hr, hu, _⟩ := h.root
    rw [hx] at hr; cases hr
    rw [hp] at hu; cases hu
  obtain ⟨p', y, h1, h2, h3⟩ := h.link i x hx h0
  rw [hp] at h1; cases h1
  exact ⟨by rintro rfl; omega, h0⟩
/-- A group that stands in no queue is named in none. -/
theorem GoodD.not_named {dep : Nat → Nat} {S : Hs} (h : GoodD dep S) {i p : Nat} {x y : Gp} (hx : S.g i = some x) (ho : x.on = false) (hy : S.g p = some y) : named y.q.es (gid i) = false := by
  cases hn : named y.q.es (gid i)
  · rfl
  · obtain ⟨e, he, hid⟩ := named_of hn
    obtain ⟨j, z, e1, e2, e3, e4⟩ := h.inn p y hy e he (by rw [hid]; exact gid_odd i)
    rw [hid] at e1
    obtain rfl := gid_inj e1
    rw [hx] at e2; cases e2
    rw [ho] at e4; cases e4
/-- Numbers below n, each once: no more than n. -/
theorem few_once : ∀ (n : Nat) (l : List Ent), Once l → (∀ e ∈ l, 0 ≤ e.id ∧ e.id < n) → l.length ≤ n
  | 0, l, _, h => by
    cases l with
    | nil => simp
    | cons e l => have := h e (by simp); omega
  | n + 1, l, ho, h => by
    have ih := few_once n (Queue.drop l n) (once_drop ho _) (fun e he => by
      obtain ⟨h1, h2⟩ := mem_drop.1 he
      have := h e h1
      exact ⟨this.1, by push_cast at this; omega⟩)
    cases hn : named l n
    · rw [drop_none hn] at ih; omega
    · have := len_drop ho hn
      omega
theorem room_for {st : St} (hs : Sound st) (hi : ∀ e ∈ st.es, e.id < 128) {id : Int} (h0 : 0 ≤ id) (h1 : id < 128) (hn : named st.es id = false) : st.es.length < 128 := by
  have := few_once 128 (insE ⟨id, 0, 0, 0⟩ st.es) (once_ins hs.once hn) (fun e he => by
    rcases mem_insE.1 he with rfl | he
    · exact ⟨h0, h1⟩
    · exact ⟨(hs.each e he).1, hi e he⟩)
  rw [len_insE] at this
  omega
/-- What may be put is put. -/
theorem err_put {st : St} (hs : Sound st) (hi : ∀ e ∈ st.es, e.id < 128) {e : Ent} (h0 : 0 ≤ e.id) (h1 : e.id < 128) (hn : named st.es e.id = false) (hc : Vrun.cerr e.wt e.rm 0 = 0) : errPut st.es e = 0 := by
  have := room_for hs hi h0 h1 hn
  unfold errPut
  rw [if_neg (by omega)]
  simp only [hc, hn]
  simp
  omega
theorem cerr_ok {e : Ent} (h : OkE e) : Vrun.cerr e.wt e.rm 0 = 0 := Vrun.cerr_in h.1 h.2.1 h.2.2.2.1 (by omega)

/-! ### what is told of queues that have changed -/
theorem put_es {st : St} {e : Ent} (h : errPut st.es e = 0) : (putS st e).es = insE e st.es := by unfold putS; rw [if_pos h, rise_es]
theorem put_cur (st : St) (e : Ent) : (putS st e).cur = st.cur := by unfold putS; split <;> simp [rise_cur]
theorem drop_es {st : St} {id : Int} (h : named st.es id = true) : (dropS st id).es = Queue.drop st.es id := by unfold dropS; rw [if_pos h, rise_es]
theorem drop_cur {st : St} {id : Int} (h : named st.es id = true) : (dropS st id).cur = if st.cur = id then -1 else st.cur := by unfold dropS; rw [if_pos h, rise_cur]
theorem named_ins (e : Ent) (l : List Ent) (id : Int) : named (insE e l) id = (e.id == id || named l id) := by
  rw [named_perm (insE_perm e l)]; rfl
theorem find_ins_named {st : St} (hs : Sound st) {id : Int} (h : named st.es id = true) : OkE (find st.es id) ∧ (find st.es id).id = id := by
  obtain ⟨f1, f2⟩ := find_of h
  have := hs.each _ f1
  exact ⟨⟨this.2.2.1, this.2.2.2.1, this.2.2.2.2.1, this.2.2.2.2.2.1, this.2.2.2.2.2.2⟩, f2⟩

/-! ### settling -/
def enterE (S : Hs) (x : Gp) (y : Gp) : Ent := { x.own with v := Renorm.wake x.own.v y.q.min S.cr }
def enterS (S : Hs) (i p : Nat) (x y : Gp) : Hs := (S.set p (some { y with q := putS y.q (enterE S x y) })).set i (some { x with on := true })
def leaveS (S : Hs) (i p : Nat) (x y : Gp) : Hs := (S.set p (some { y with q := dropS y.q x.own.id })).set i (some { x with own := find y.q.es x.own.id, on := false })
/-- One step of settling. -/
def stepS (S : Hs) (i : Nat) : Hs :=
  match S.g i with
  | none => S
  | some x => match x.up with
    | none => S
    | some p => match S.g p with
      | none => S
      | some y => if x.on then leaveS S i p x y else enterS S i p x y
def settleS : Nat → Hs → Nat → Hs
  | 0, S, _ => S
  | n + 1, S, i => match S.g i with
    | none => S
    | some x => match x.up with
      | none => S
      | some p => if x.on = should x then S else settleS n (stepS S i) p
theorem stepS_eq {S : Hs} {i p : Nat} {x y : Gp} (hx : S.g i = some x) (hp : x.up = some p) (hy : S.g p = some y) : stepS S i = if x.on then leaveS S i p x y else enterS S i p x y := by
  unfold stepS; rw [hx]; simp only [hp, hy]
theorem settleS_more {n : Nat} {S : Hs} {i p : Nat} {x : Gp} (hx : S.g i = some x) (hp : x.up = some p) (h : ¬ x.on = should x) : settleS (n + 1) S i = settleS n (stepS S i) p := by
  rw [settleS]; rw [hx]; simp only [hp]; rw [if_neg h]
theorem settleS_done {n : Nat} {S : Hs} {i : Nat} {x : Gp} (hx : S.g i = some x) (h : x.up = none ∨ x.on = should x) : settleS n S i = S := by
  cases n with
  | zero => rfl
  | succ n =>
    rw [settleS, hx]
    rcases h with h | h
    · simp only [h]
    · simp only
      split
      · rfl
      · rw [if_pos h]
theorem up_id {x : Gp} {dep : Nat → Nat} {S : Hs} (h : GoodD dep S) {i : Nat} (hx : S.g i = some x) (h0 : i ≠ 0) : x.own.id = gid i ∧ 0 ≤ gid i ∧ gid i < 128 := by
  have := h.few i x hx
  refine ⟨(h.own i x hx h0).1, ?_, ?_⟩ <;> (unfold gid; omega)
theorem wake_i64 {o m c : Int} (h : I64 o) : I64 (Renorm.wake o m c) := by
  have := Fix.i64_ends (m - Fix.hold c 0 1099511627776)
  unfold Renorm.wake I64 at *
  unfold Fix.I64 at this
  omega
theorem enter_ok {dep : Nat → Nat} {S : Hs} (h : GoodD dep S) {i p : Nat} {x y : Gp} (hx : S.g i = some x) (hp : x.up = some p) (hy : S.g p = some y) (ho : x.on = false) :
    errPut y.q.es (enterE S x y) = 0 ∧ (enterE S x y).id = gid i ∧ OkE (enterE S x y) := by
  obtain ⟨hne, h0⟩ := h.up_ne hx hp
  obtain ⟨e1, e2, e3⟩ := up_id h hx h0
  have hok := (h.own i x hx h0).2
  have hE : OkE (enterE S x y) := ⟨hok.1, hok.2.1, hok.2.2.1, hok.2.2.2.1, wake_i64 hok.2.2.2.2⟩
  refine ⟨err_put (h.q p y hy) (h.ids p y hy) (by show 0 ≤ x.own.id; omega) (by show x.own.id < 128; omega) ?_ (cerr_ok hE), e1, hE⟩
  show named y.q.es x.own.id = false
  rw [e1]
  exact h.not_named hx ho hy
end Go.Proofs.YtnnjbonejbmgdaaGreat.Hr

/- What is done to the queues of one P leaves them sound; nothing of a program. Conditions: as each fact states them. -/
namespace Go.Proofs.YtnnjbonejbmgdaaGreat.Hr
open Queue
set_option linter.unusedVariables false
set_option linter.unusedSimpArgs false

/-- Two groups, one within the other, have changed. -/
def Hs.two (S : Hs) (i p : Nat) (x y : Gp) : Hs := (S.set p (some y)).set i (some x)
theorem two_i (S : Hs) (i p : Nat) (x y : Gp) : (S.two i p x y).g i = some x := by simp [Hs.two, Hs.set]
theorem two_p (S : Hs) {i p : Nat} (x y : Gp) (h : p ≠ i) : (S.two i p x y).g p = some y := by simp [Hs.two, Hs.set, h]
theorem two_o (S : Hs) {i p k : Nat} (x y : Gp) (h : k ≠ i) (h2 : k ≠ p) : (S.two i p x y).g k = S.g k := by simp [Hs.two, Hs.set, h, h2]
theorem two_cases {S : Hs} {i p : Nat} {x y : Gp} (hne : p ≠ i) {k : Nat} {z : Gp} (h : (S.two i p x y).g k = some z) : (k = i ∧ z = x) ∨ (k = p ∧ z = y) ∨ (k ≠ i ∧ k ≠ p ∧ S.g k = some z) := by
  by_cases h1 : k = i
  · subst h1; rw [two_i] at h; cases h; exact .inl ⟨rfl, rfl⟩
  · by_cases h2 : k = p
    · subst h2; rw [two_p _ _ _ hne] at h; cases h; exact .inr (.inl ⟨rfl, rfl⟩)
    · rw [two_o _ _ _ h1 h2] at h; exact .inr (.inr ⟨h1, h2, h⟩)
/-- A group x within y: x and y's queue have changed. -/
theorem GoodD.two {dep : Nat → Nat} {S : Hs} (h : GoodD dep S) {i p : Nat} {x y x' : Gp} {st : St} (hx : S.g i = some x) (hp : x.up = some p) (hy : S.g p = some y)
    (xu : x'.up = some p) (xq : x'.q = x.q) (xo : x'.own.id = gid i ∧ OkE x'.own) (hs : Sound st) (hi : ∀ e ∈ st.es, e.id < 128) (hc : st.cur = -1 ∨ named st.es st.cur = true)
    (hin : ∀ e ∈ st.es, e.id % 2 = 1 → (e.id = gid i ∧ x'.on = true) ∨ (e.id ≠ gid i ∧ named y.q.es e.id = true))
    (hout : ∀ j, named y.q.es (gid j) = true → j ≠ i → named st.es (gid j) = true) (hon : x'.on = true → named st.es (gid i) = true) : GoodD dep (S.two i p x' { y with q := st }) := by
  obtain ⟨hne, h0⟩ := h.up_ne hx hp
  have look : ∀ k z, S.g k = some z → ∃ z', (S.two i p x' { y with q := st }).g k = some z' ∧ z'.up = z.up ∧ (k ≠ i → z'.on = z.on) ∧ (k ≠ p → z'.q = z.q) := fun k z hz => by
    by_cases h1 : k = i
    · subst h1
      rw [hx] at hz; cases hz
      exact ⟨x', two_i _ _ _ _ _, by rw [xu, hp], fun e => absurd rfl e, fun _ => xq⟩
    · by_cases h2 : k = p
      · subst h2
        rw [hy] at hz; cases hz
        exact ⟨_, two_p _ _ _ hne, rfl, fun _ => rfl, fun e => absurd rfl e⟩
      · exact ⟨z, by rw [two_o _ _ _ h1 h2]; exact hz, rfl, fun _ => rfl, fun _ => rfl⟩
  have back : ∀ k z, (S.two i p x' { y with q := st }).g k = some z → ∃ z0, S.g k = some z0 ∧ z.up = z0.up := fun k z hz => by
    rcases two_cases hne hz with ⟨rfl, rfl⟩ | ⟨rfl, rfl⟩ | ⟨_, _, hz⟩
    · exact ⟨x, hx, by rw [xu, hp]⟩
    · exact ⟨y, hy, rfl⟩
    · exact ⟨z, hz, rfl⟩
  refine ⟨h.cr, h.gr, ?_, ?_, h.dep0, ?_, ?_, ?_, ?_, ?_, ?_, ?_, ?_⟩
  · obtain ⟨r, hr, hu, ho⟩ := h.root
    obtain ⟨z', e1, e2, e3, _⟩ := look 0 r hr
    exact ⟨z', e1, by rw [e2, hu], by rw [e3 (by omega), ho]⟩
  · intro k z hz
    obtain ⟨z0, e, _⟩ := back k z hz
    exact h.few k z0 e
  · intro k z hz
    obtain ⟨z0, e, _⟩ := back k z hz
    exact h.deep k z0 e
  · intro k z hz hk
    obtain ⟨z0, e, eu⟩ := back k z hz
    obtain ⟨p', y', e1, e2, e3⟩ := h.link k z0 e hk
    obtain ⟨w, f1, _⟩ := look p' y' e2
    exact ⟨p', w, by rw [eu, e1], f1, e3⟩
  · intro k z hz hk
    rcases two_cases hne hz with ⟨rfl, rfl⟩ | ⟨rfl, rfl⟩ | ⟨_, _, hz⟩
    · exact xo
    · exact h.own _ y hy hk
    · exact h.own _ _ hz hk
  · intro k z hz
    rcases two_cases hne hz with ⟨rfl, rfl⟩ | ⟨rfl, rfl⟩ | ⟨_, _, hz⟩
    · rw [xq]; exact h.q _ _ hx
    · exact hs
    · exact h.q _ _ hz
  · intro k z hz
    rcases two_cases hne hz with ⟨rfl, rfl⟩ | ⟨rfl, rfl⟩ | ⟨_, _, hz⟩
    · rw [xq]; exact h.ids _ _ hx
    · exact hi
    · exact h.ids _ _ hz
  · intro k z hz e he ho
    have old : ∀ z0, S.g k = some z0 → (e ∈ z0.q.es ∨ named z0.q.es e.id = true) → (e.id = gid i → k ≠ p → False) → (e.id ≠ gid i ∨ k ≠ p) → ∃ j y', e.id = gid j ∧ (S.two i p x' { y with q := st }).g j = some y' ∧ y'.up = some k ∧ y'.on = true := fun z0 hz0 hm hno hor => by
      obtain ⟨e', he', hid⟩ : ∃ e' ∈ z0.q.es, e'.id = e.id := hm.elim (fun hm => ⟨e, hm, rfl⟩) (fun hm => named_of hm)
      obtain ⟨j, y', f1, f2, f3, f4⟩ := h.inn k z0 hz0 e' he' (by rw [hid]; exact ho)
      obtain ⟨w, g1, g2, g3, _⟩ := look j y' f2
      rw [hid] at f1
      refine ⟨j, w, f1, g1, by rw [g2, f3], ?_⟩
      by_cases hj : j = i
      · subst hj
        exfalso
        rcases hor with hor | hor
        · exact hor f1
        · exact hno f1 hor
      · rw [g3 hj, f4]
    have nop : ∀ z0, S.g k = some z0 → e ∈ z0.q.es → e.id = gid i → k ≠ p → False := fun z0 hz0 hm hid hk => by
      obtain ⟨j, y', f1, f2, f3, f4⟩ := h.inn k z0 hz0 e hm ho
      rw [hid] at f1
      obtain rfl := gid_inj f1
      rw [hx] at f2; cases f2
      rw [hp] at f3; cases f3
      exact hk rfl
    rcases two_cases hne hz with ⟨rfl, rfl⟩ | ⟨rfl, rfl⟩ | ⟨k1, k2, hz⟩
    · rw [xq] at he
      exact old x hx (.inl he) (nop x hx he) (.inr (Ne.symm hne))
    · rcases hin e he ho with ⟨f1, f2⟩ | ⟨f1, f2⟩
      · exact ⟨i, x', f1, two_i _ _ _ _ _, xu, f2⟩
      · exact old y hy (.inr f2) (fun e1 _ => f1 e1) (.inl f1)
    · exact old z hz (.inl he) (nop z hz he) (.inr k2)
  · intro k z hz ho
    have key : ∀ z0, S.g k = some z0 → z.up = z0.up → (k ≠ i → z0.on = true) → ∃ p' y', z.up = some p' ∧ (S.two i p x' { y with q := st }).g p' = some y' ∧ named y'.q.es (gid k) = true := fun z0 hz0 hu hon0 => by
      by_cases hk : k = i
      · subst hk
        rw [hx] at hz0; cases hz0
        rw [two_i] at hz; cases hz
        exact ⟨p, _, xu, two_p _ _ _ hne, hon ho⟩
      · obtain ⟨p', y', e1, e2, e3⟩ := h.out k z0 hz0 (hon0 hk)
        by_cases hp' : p' = p
        · subst hp'
          rw [hy] at e2; cases e2
          exact ⟨p', _, by rw [hu, e1], two_p _ _ _ hne, hout k e3 hk⟩
        · obtain ⟨w, g1, g2, _, g3⟩ := look p' y' e2
          exact ⟨p', w, by rw [hu, e1], g1, by rw [g3 hp']; exact e3⟩
    rcases two_cases hne hz with ⟨rfl, rfl⟩ | ⟨rfl, rfl⟩ | ⟨k1, k2, hz0⟩
    · exact key x hx (by rw [xu, hp]) (fun e => absurd rfl e)
    · exact key y hy rfl (fun _ => ho)
    · exact key z hz0 rfl (fun _ => ho)
  · intro k z hz
    rcases two_cases hne hz with ⟨rfl, rfl⟩ | ⟨rfl, rfl⟩ | ⟨_, _, hz⟩
    · rw [xq]; exact h.cur _ _ hx
    · exact hc
    · exact h.cur _ _ hz
theorem named_drop' (es : List Ent) (id j : Int) : named (Queue.drop es id) j = (decide (j ≠ id) && named es j) := by
  apply Bool.eq_iff_iff.2
  rw [Bool.and_eq_true, decide_eq_true_iff]
  unfold named
  rw [List.any_eq_true, List.any_eq_true]
  constructor
  · rintro ⟨x, hx, hid⟩
    have h2 : x.id = j := by simpa using hid
    obtain ⟨a, b⟩ := mem_drop.1 hx
    exact ⟨by omega, x, a, hid⟩
  · rintro ⟨hne, x, hx, hid⟩
    have h2 : x.id = j := by simpa using hid
    exact ⟨x, mem_drop.2 ⟨hx, by omega⟩, hid⟩
theorem GoodD.enter {dep : Nat → Nat} {S : Hs} (h : GoodD dep S) {i p : Nat} {x y : Gp} (hx : S.g i = some x) (hp : x.up = some p) (hy : S.g p = some y) (ho : x.on = false) : GoodD dep (enterS S i p x y) := by
  obtain ⟨hz, hid, hE⟩ := enter_ok h hx hp hy ho
  obtain ⟨hne, h0⟩ := h.up_ne hx hp
  have hy2 := h.q p y hy
  have hes := put_es (st := y.q) hz
  refine h.two hx hp hy (x' := { x with on := true }) hp rfl (h.own i x hx h0) (hy2.put (by unfold I64; have := up_id h hx h0; omega) hE.2.2.2.2 hE.2.2.1) ?_ ?_ ?_ ?_ ?_
  · intro e he
    rw [hes] at he
    rcases mem_insE.1 he with rfl | he
    · rw [hid]; exact (up_id h hx h0).2.2
    · exact h.ids p y hy e he
  · rw [put_cur, hes, named_ins]
    rcases h.cur p y hy with e | e
    · exact .inl e
    · exact .inr (by rw [e]; simp)
  · intro e he hodd
    rw [hes] at he
    rcases mem_insE.1 he with rfl | he
    · exact .inl ⟨hid, rfl⟩
    · refine .inr ⟨fun e1 => ?_, named_mem he⟩
      have := h.not_named hx ho hy
      rw [← e1, named_mem he] at this
      cases this
  · intro j hj hji
    rw [hes, named_ins, hj]; simp
  · intro _
    rw [hes, named_ins, hid]; simp
theorem GoodD.leave {dep : Nat → Nat} {S : Hs} (h : GoodD dep S) {i p : Nat} {x y : Gp} (hx : S.g i = some x) (hp : x.up = some p) (hy : S.g p = some y) (ho : x.on = true) :
    GoodD dep (leaveS S i p x y) ∧ named y.q.es x.own.id = true := by
  obtain ⟨hne, h0⟩ := h.up_ne hx hp
  have hid := (up_id h hx h0).1
  have hn : named y.q.es x.own.id = true := by
    obtain ⟨p', y', e1, e2, e3⟩ := h.out i x hx ho
    rw [hp] at e1; cases e1
    rw [hy] at e2; cases e2
    rw [hid]; exact e3
  have hy2 := h.q p y hy
  have hes := drop_es (st := y.q) hn
  obtain ⟨f1, f2⟩ := find_ins_named hy2 hn
  refine ⟨h.two hx hp hy (x' := { x with own := find y.q.es x.own.id, on := false }) hp rfl ⟨by show (find y.q.es x.own.id).id = _; rw [f2, hid], f1⟩ hy2.drop ?_ ?_ ?_ ?_ (fun e => by cases e), hn⟩
  · intro e he
    rw [hes] at he
    exact h.ids p y hy e (mem_drop.1 he).1
  · rw [drop_cur hn, hes, named_drop']
    split
    · exact .inl rfl
    · rename_i hc
      rcases h.cur p y hy with e | e
      · exact .inl e
      · exact .inr (by rw [e]; simp [hc])
  · intro e he hodd
    rw [hes] at he
    obtain ⟨a, b⟩ := mem_drop.1 he
    exact .inr ⟨by rw [← hid]; exact b, named_mem a⟩
  · intro j hj hji
    rw [hes, named_drop', hj]
    have : gid j ≠ x.own.id := fun e => hji (gid_inj (by rw [e, hid]))
    simp [this]
theorem GoodD.step {dep : Nat → Nat} {S : Hs} (h : GoodD dep S) (i : Nat) : GoodD dep (stepS S i) := by
  unfold stepS
  split
  · exact h
  · rename_i x hx
    split
    · exact h
    · rename_i p hp
      split
      · exact h
      · rename_i y hy
        cases ho : x.on
        · simp only [Bool.false_eq_true, if_false]; exact h.enter hx hp hy ho
        · simp only [if_true]; exact (h.leave hx hp hy ho).1
theorem GoodD.settle {dep : Nat → Nat} : ∀ (n : Nat) {S : Hs} (i : Nat), GoodD dep S → GoodD dep (settleS n S i)
  | 0, _, _, h => h
  | n + 1, S, i, h => by
    unfold settleS
    split
    · exact h
    · split
      · exact h
      · split
        · exact h
        · exact (h.step i).settle n _
end Go.Proofs.YtnnjbonejbmgdaaGreat.Hr

/- What changes one queue, or one group, leaves all sound; nothing of a program. Conditions: as each fact states them. -/
namespace Go.Proofs.YtnnjbonejbmgdaaGreat.Hr
open Queue
set_option linter.unusedVariables false
set_option linter.unusedSimpArgs false

theorem set_cases {S : Hs} {i : Nat} {x : Gp} {k : Nat} {z : Gp} (h : (S.set i (some x)).g k = some z) : (k = i ∧ z = x) ∨ (k ≠ i ∧ S.g k = some z) := by
  by_cases e : k = i
  · subst e; rw [Hs.set_same] at h; cases h; exact .inl ⟨rfl, rfl⟩
  · rw [Hs.set_other _ _ e] at h; exact .inr ⟨e, h⟩
/-- One group has changed, but not within which it is, nor whether it stands in a queue; of its queue's groups none has come or gone. -/
theorem GoodD.one {dep : Nat → Nat} {S : Hs} (h : GoodD dep S) {i : Nat} {x x' : Gp} (hx : S.g i = some x) (xu : x'.up = x.up) (xo : x'.on = x.on) (xw : i ≠ 0 → x'.own.id = gid i ∧ OkE x'.own)
    (hs : Sound x'.q) (hi : ∀ e ∈ x'.q.es, e.id < 128) (hc : x'.q.cur = -1 ∨ named x'.q.es x'.q.cur = true)
    (hin : ∀ e ∈ x'.q.es, e.id % 2 = 1 → named x.q.es e.id = true) (hout : ∀ j, named x.q.es (gid j) = true → named x'.q.es (gid j) = true) : GoodD dep (S.set i (some x')) := by
  have look : ∀ k z, S.g k = some z → ∃ z', (S.set i (some x')).g k = some z' ∧ z'.up = z.up ∧ z'.on = z.on ∧ (∀ j, named z.q.es (gid j) = true → named z'.q.es (gid j) = true) := fun k z hz => by
    by_cases e : k = i
    · subst e
      rw [hx] at hz; cases hz
      exact ⟨x', Hs.set_same _ _ _, xu, xo, hout⟩
    · exact ⟨z, by rw [Hs.set_other _ _ e]; exact hz, rfl, rfl, fun _ h => h⟩
  have back : ∀ k z, (S.set i (some x')).g k = some z → ∃ z0, S.g k = some z0 ∧ z.up = z0.up ∧ z.on = z0.on := fun k z hz => by
    rcases set_cases hz with ⟨rfl, rfl⟩ | ⟨_, hz⟩
    · exact ⟨x, hx, xu, xo⟩
    · exact ⟨z, hz, rfl, rfl⟩
  refine ⟨h.cr, h.gr, ?_, ?_, h.dep0, ?_, ?_, ?_, ?_, ?_, ?_, ?_, ?_⟩
  · obtain ⟨r, hr, hu, ho⟩ := h.root
    obtain ⟨z', e1, e2, e3, _⟩ := look 0 r hr
    exact ⟨z', e1, by rw [e2, hu], by rw [e3, ho]⟩
  · intro k z hz
    obtain ⟨z0, e, _⟩ := back k z hz
    exact h.few k z0 e
  · intro k z hz
    obtain ⟨z0, e, _⟩ := back k z hz
    exact h.deep k z0 e
  · intro k z hz hk
    obtain ⟨z0, e, eu, _⟩ := back k z hz
    obtain ⟨p', y', e1, e2, e3⟩ := h.link k z0 e hk
    obtain ⟨w, f1, _⟩ := look p' y' e2
    exact ⟨p', w, by rw [eu, e1], f1, e3⟩
  · intro k z hz hk
    rcases set_cases hz with ⟨rfl, rfl⟩ | ⟨_, hz⟩
    · exact xw hk
    · exact h.own k z hz hk
  · intro k z hz
    rcases set_cases hz with ⟨rfl, rfl⟩ | ⟨_, hz⟩
    · exact hs
    · exact h.q k z hz
  · intro k z hz
    rcases set_cases hz with ⟨rfl, rfl⟩ | ⟨_, hz⟩
    · exact hi
    · exact h.ids k z hz
  · intro k z hz e he ho
    have key : ∀ z0, S.g k = some z0 → named z0.q.es e.id = true → ∃ j y', e.id = gid j ∧ (S.set i (some x')).g j = some y' ∧ y'.up = some k ∧ y'.on = true := fun z0 hz0 hm => by
      obtain ⟨e', he', hid⟩ := named_of hm
      obtain ⟨j, y', f1, f2, f3, f4⟩ := h.inn k z0 hz0 e' he' (by rw [hid]; exact ho)
      obtain ⟨w, g1, g2, g3, _⟩ := look j y' f2
      exact ⟨j, w, by rw [← hid, f1], g1, by rw [g2, f3], by rw [g3, f4]⟩
    rcases set_cases hz with ⟨rfl, rfl⟩ | ⟨_, hz⟩
    · exact key x hx (hin e he ho)
    · exact key z hz (named_mem he)
  · intro k z hz ho
    obtain ⟨z0, hz0, eu, eo⟩ := back k z hz
    obtain ⟨p', y', e1, e2, e3⟩ := h.out k z0 hz0 (by rw [← eo, ho])
    obtain ⟨w, f1, _, _, f4⟩ := look p' y' e2
    exact ⟨p', w, by rw [eu, e1], f1, f4 k e3⟩
  · intro k z hz
    rcases set_cases hz with ⟨rfl, rfl⟩ | ⟨_, hz⟩
    · exact hc
    · exact h.cur k z hz
theorem even_not_gid {id : Int} (h : id % 2 = 0) (j : Nat) : gid j ≠ id := by unfold gid; omega
theorem GoodD.put {dep : Nat → Nat} {S : Hs} (h : GoodD dep S) {i : Nat} {x : Gp} (hx : S.g i = some x) {e : Ent} (hz : errPut x.q.es e = 0) (h0 : 0 ≤ e.id) (h1 : e.id < 128) (h2 : e.id % 2 = 0) (hv : I64 e.v) (hr : 0 ≤ e.rm) :
    GoodD dep (S.set i (some { x with q := putS x.q e })) := by
  have hes := put_es (st := x.q) hz
  refine h.one hx (x' := { x with q := putS x.q e }) rfl rfl (h.own i x hx) ((h.q i x hx).put (by unfold I64; omega) hv hr) ?_ ?_ ?_ ?_
  · intro f hf
    rw [hes] at hf
    rcases mem_insE.1 hf with rfl | hf
    · exact h1
    · exact h.ids i x hx f hf
  · simp only [put_cur, hes, named_ins]
    rcases h.cur i x hx with c | c
    · exact .inl c
    · exact .inr (by rw [c]; simp)
  · intro f hf ho
    rw [hes] at hf
    rcases mem_insE.1 hf with rfl | hf
    · omega
    · exact named_mem hf
  · intro j hj
    simp only [hes, named_ins, hj]; simp
theorem GoodD.drop {dep : Nat → Nat} {S : Hs} (h : GoodD dep S) {i : Nat} {x : Gp} (hx : S.g i = some x) {id : Int} (hn : named x.q.es id = true) (h2 : id % 2 = 0) : GoodD dep (S.set i (some { x with q := dropS x.q id })) := by
  have hes := drop_es (st := x.q) hn
  refine h.one hx (x' := { x with q := dropS x.q id }) rfl rfl (h.own i x hx) (h.q i x hx).drop ?_ ?_ ?_ ?_
  · intro f hf
    rw [hes] at hf
    exact h.ids i x hx f (mem_drop.1 hf).1
  · simp only [drop_cur hn, hes, named_drop']
    split
    · exact .inl rfl
    · rename_i hc
      rcases h.cur i x hx with c | c
      · exact .inl c
      · exact .inr (by rw [c]; simp [hc])
  · intro f hf ho
    rw [hes] at hf
    exact named_mem (mem_drop.1 hf).1
  · intro j hj
    simp only [hes, named_drop', hj]
    simp [even_not_gid h2 j]
theorem named_setE (e : Ent) (es : List Ent) (id : Int) : named (setE e es) id = named es id := by
  unfold named setE
  rw [List.any_map]
  congr 1
  funext d
  simp only [Function.comp]
  split
  · rename_i he; rw [he]
  · rfl
theorem mem_setE {e f : Ent} {es : List Ent} (h : f ∈ setE e es) : f ∈ es ∨ f = e := by
  unfold setE at h
  obtain ⟨d, hd, rfl⟩ := List.mem_map.1 h
  split
  · exact .inr rfl
  · exact .inl hd
theorem weigh_es {st : St} {id x : Int} (h : errWeigh st id x = 0) : (weighS st id x).es = setE (weighed (find st.es id) x) st.es ∧ (weighS st id x).cur = st.cur := by
  unfold weighS; rw [if_pos h, rise_es, rise_cur]; exact ⟨rfl, rfl⟩
end Go.Proofs.YtnnjbonejbmgdaaGreat.Hr

/- What is served, weighed and chosen leaves all sound; nothing of a program. Conditions: as each fact states them. -/
namespace Go.Proofs.YtnnjbonejbmgdaaGreat.Hr
open Queue
set_option linter.unusedVariables false
set_option linter.unusedSimpArgs false

theorem sound_weigh {st : St} (h : Sound st) (id x : Int) (hx : 0 ≤ x) : Sound (weighS st id x) := by
  unfold weighS
  split
  · rename_i hz
    apply Sound.rise
    have hnm : named st.es id = true := by
      unfold errWeigh at hz
      cases hh : named st.es id
      · rw [hh] at hz; simp at hz
      · rfl
    have hce : Vrun.cerr x 0 0 = 0 := by unfold errWeigh at hz; rw [hnm] at hz; simpa using hz
    have hxb := cerr_zero hce
    obtain ⟨f1, f2⟩ := find_of hnm
    have he := h.each _ f1
    have hp := setE_perm h.once (e := weighed (find st.es id) x) (by show named st.es (find st.es id).id = true; rw [f2]; exact hnm)
    have hq : 0 ≤ Wide.quo (find st.es id).rm x (find st.es id).wt ∧ Wide.quo (find st.es id).rm x (find st.es id).wt < x := by
      unfold Wide.quo
      have hlt : (find st.es id).rm * x / (find st.es id).wt < x := by
        apply Int.ediv_lt_of_lt_mul (by omega)
        rw [Int.mul_comm x]
        exact Int.mul_lt_mul_of_pos_right he.2.2.2.2.2.1 (by omega)
      have h0 : 0 ≤ (find st.es id).rm * x / (find st.es id).wt := Int.ediv_nonneg (Int.mul_nonneg (by omega) (by omega)) (by omega)
      rw [if_pos ⟨by omega, by omega⟩]
      exact ⟨h0, hlt⟩
    refine ⟨?_, ?_, ?_, h.cur, h.min⟩
    · show Once (setE (weighed (find st.es id) x) st.es)
      refine once_perm hp ?_
      unfold Once
      rw [List.pairwise_cons]
      refine ⟨fun d hd => ?_, once_drop h.once _⟩
      have := (mem_drop.1 hd).2
      exact fun e => this e.symm
    · intro e he'
      have he2 : e ∈ setE (weighed (find st.es id) x) st.es := he'
      rw [← hp.mem_iff] at he2
      rcases List.mem_cons.1 he2 with rfl | hd
      · have hb : I64 (find st.es id).v := he.2.2.2.2.2.2
        exact ⟨he.1, he.2.1, by show 2 ≤ x; omega, by show x ≤ 262144; omega, hq.1, hq.2, hb⟩
      · exact h.each e (mem_drop.1 hd).1
    · show (setE (weighed (find st.es id) x) st.es).length ≤ 128
      unfold setE
      rw [List.length_map]
      exact h.few
  · exact h

theorem yielded_is (st : St) (g : Int) : Queue.yielded st g = -1 ∨ named st.es (Queue.yielded st g) = true := by
  unfold Queue.yielded
  split
  · split
    · exact .inl rfl
    · rename_i o ho
      exact .inr (List.any_eq_true.2 ⟨o, (mem_drop.1 (List.mem_of_mem_head? (show (Queue.drop st.es st.cur).head? = some o from ho))).1, by simp⟩)
  · exact chosen_is st g
theorem sound_yield {st : St} (h : Sound st) (g : Int) : Sound { st with cur := Queue.yielded st g } := by
  refine ⟨h.once, h.each, h.few, ?_, h.min⟩
  rcases yielded_is st g with e | e
  · simp only [e]; unfold I64; omega
  · obtain ⟨x, hx, hid⟩ := named_of e
    have := h.each x hx
    simp only [← hid]
    unfold I64
    omega

theorem GoodD.weigh {dep : Nat → Nat} {S : Hs} (h : GoodD dep S) {i : Nat} {x : Gp} (hx : S.g i = some x) (id wt : Int) (h0 : 0 ≤ wt) : GoodD dep (S.set i (some { x with q := weighS x.q id wt })) := by
  by_cases hz : errWeigh x.q id wt = 0
  · obtain ⟨hes, hcu⟩ := weigh_es hz
    refine h.one hx (x' := { x with q := weighS x.q id wt }) rfl rfl (h.own i x hx) (sound_weigh (h.q i x hx) id wt h0) ?_ ?_ ?_ ?_
    · intro f hf
      rw [hes] at hf
      rcases mem_setE hf with hf | rfl
      · exact h.ids i x hx f hf
      · show (find x.q.es id).id < 128
        have hn : named x.q.es id = true := by
          unfold errWeigh at hz
          cases hh : named x.q.es id
          · rw [hh] at hz; simp at hz
          · rfl
        exact h.ids i x hx _ (find_of hn).1
    · simp only [hes, hcu, named_setE]
      exact h.cur i x hx
    · intro f hf ho
      rw [hes] at hf
      have := named_mem hf
      rw [named_setE] at this
      exact this
    · intro j hj
      simp only [hes, named_setE, hj]
  · have : weighS x.q id wt = x.q := by unfold weighS; rw [if_neg hz]
    rw [this]
    exact h.one hx rfl rfl (h.own i x hx) (h.q i x hx) (h.ids i x hx) (h.cur i x hx) (fun f hf _ => named_mem hf) (fun _ h => h)
theorem GoodD.cur_ {dep : Nat → Nat} {S : Hs} (h : GoodD dep S) {i : Nat} {x : Gp} (hx : S.g i = some x) {c : Int} (hs : Sound { x.q with cur := c }) (hc : c = -1 ∨ named x.q.es c = true) : GoodD dep (S.set i (some { x with q := { x.q with cur := c } })) :=
  h.one hx rfl rfl (h.own i x hx) hs (h.ids i x hx) hc (fun f hf _ => named_mem hf) (fun _ h => h)
theorem charge_es {st : St} {ns : Int} (h : errCharge st ns = 0) : (chargeS st ns).es = insE (Queue.served (find st.es st.cur) ns) (Queue.drop st.es st.cur) ∧ (chargeS st ns).cur = st.cur := by
  unfold chargeS; rw [if_pos h, rise_es, rise_cur]; exact ⟨rfl, rfl⟩
theorem charge_named {st : St} {ns : Int} (h : errCharge st ns = 0) (id : Int) : named (chargeS st ns).es id = named st.es id := by
  have hn : named st.es st.cur = true := by
    unfold errCharge at h
    cases hh : named st.es st.cur
    · rw [hh] at h; simp at h
    · rfl
  rw [(charge_es h).1, named_ins, named_drop']
  have : (Queue.served (find st.es st.cur) ns).id = st.cur := (find_of hn).2
  rw [this]
  by_cases e : st.cur = id
  · subst e; simp [hn]
  · have : ¬ id = st.cur := fun k => e k.symm
    simp [e, this]
theorem GoodD.charge {dep : Nat → Nat} {S : Hs} (h : GoodD dep S) {i : Nat} {x : Gp} (hx : S.g i = some x) {ns : Int} (hn : 0 ≤ ns) : GoodD dep (S.set i (some { x with q := chargeS x.q ns })) := by
  by_cases hz : errCharge x.q ns = 0
  · obtain ⟨hes, hcu⟩ := charge_es hz
    have hnm := charge_named hz
    refine h.one hx (x' := { x with q := chargeS x.q ns }) rfl rfl (h.own i x hx) ((h.q i x hx).charge hn) ?_ ?_ ?_ ?_
    · intro f hf
      have := named_mem hf
      simp only [hnm] at this
      obtain ⟨e, he, hid⟩ := named_of this
      rw [← hid]
      exact h.ids i x hx e he
    · simp only [hcu, hnm]
      exact h.cur i x hx
    · intro f hf ho
      have := named_mem hf
      simp only [hnm] at this
      exact this
    · intro j hj
      simp only [hnm, hj]
  · have : chargeS x.q ns = x.q := by unfold chargeS; rw [if_neg hz]
    rw [this]
    exact h.one hx rfl rfl (h.own i x hx) (h.q i x hx) (h.ids i x hx) (h.cur i x hx) (fun f hf _ => named_mem hf) (fun _ h => h)
theorem GoodD.own_ {dep : Nat → Nat} {S : Hs} (h : GoodD dep S) {i : Nat} {x : Gp} (hx : S.g i = some x) {e : Ent} (he : i ≠ 0 → e.id = gid i ∧ OkE e) : GoodD dep (S.set i (some { x with own := e })) :=
  h.one hx rfl rfl he (h.q i x hx) (h.ids i x hx) (h.cur i x hx) (fun f hf _ => named_mem hf) (fun _ h => h)
theorem GoodD.halt_ {dep : Nat → Nat} {S : Hs} (h : GoodD dep S) {i : Nat} {x : Gp} (hx : S.g i = some x) (is : Bool) : GoodD dep (S.set i (some { x with halt := is })) :=
  h.one hx rfl rfl (h.own i x hx) (h.q i x hx) (h.ids i x hx) (h.cur i x hx) (fun f hf _ => named_mem hf) (fun _ h => h)
end Go.Proofs.YtnnjbonejbmgdaaGreat.Hr

/- The way from the root's queue on down, as plain data; nothing of a program. Conditions: as each fact states them. -/
namespace Go.Proofs.YtnnjbonejbmgdaaGreat.Hr
open Queue
set_option linter.unusedVariables false
set_option linter.unusedSimpArgs false

/-- The group of an Id; none: it is a task's, or nobody's. -/
def nxt (id : Int) : Option Nat := if id = -1 ∨ id % 2 = 0 then none else some (id / 2).toNat
def curS (c : St → Int) (S : Hs) (g : Nat) (x : Gp) : Hs := S.set g (some { x with q := { x.q with cur := c x.q } })
def bodS (f : St → St) (S : Hs) (g : Nat) (x : Gp) : Hs := S.set g (some { x with q := f x.q })
/-- From a group on down: its queue is asked, which is then its current one; then something is done to it; then on to the group that was told. -/
def walkS (c : St → Int) (f : St → St) : Nat → Hs → Nat → Hs × Nat × Int
  | 0, S, g => (S, g, -1)
  | n + 1, S, g => match S.g g with
    | none => (S, g, -1)
    | some x => match nxt (c x.q) with
      | none => (S.set g (some { x with q := f { x.q with cur := c x.q } }), g, c x.q)
      | some j => walkS c f n (S.set g (some { x with q := f { x.q with cur := c x.q } })) j
/-- What may be asked, and what may be done. -/
structure Asks (c : St → Int) (f : St → St) : Prop where
  ask : ∀ st, Sound st → (st.cur = -1 ∨ named st.es st.cur = true) → Sound { st with cur := c st } ∧ (c st = -1 ∨ named st.es (c st) = true)
  good : ∀ {dep S i x}, GoodD dep S → S.g i = some x → GoodD dep (bodS f S i x)
theorem Asks.curG {c : St → Int} {f : St → St} (A : Asks c f) {dep : Nat → Nat} {S : Hs} (h : GoodD dep S) {i : Nat} {x : Gp} (hx : S.g i = some x) : GoodD dep (curS c S i x) :=
  h.cur_ hx (A.ask x.q (h.q i x hx) (h.cur i x hx)).1 (A.ask x.q (h.q i x hx) (h.cur i x hx)).2
theorem cur_get (c : St → Int) (S : Hs) (i : Nat) (x : Gp) : (curS c S i x).g i = some { x with q := { x.q with cur := c x.q } } := Hs.set_same _ _ _
theorem set_set' (S : Hs) (i : Nat) (x y : Option Gp) : (S.set i x).set i y = S.set i y := by
  unfold Hs.set
  simp only [Hs.mk.injEq, true_and]
  funext j
  split <;> rfl
theorem bod_cur (c : St → Int) (f : St → St) (S : Hs) (i : Nat) (x : Gp) : bodS f (curS c S i x) i { x with q := { x.q with cur := c x.q } } = S.set i (some { x with q := f { x.q with cur := c x.q } }) := set_set' _ _ _ _
/-- A group that is told stands within the one whose queue tells it. -/
theorem GoodD.next {dep : Nat → Nat} {S : Hs} (h : GoodD dep S) {i : Nat} {x : Gp} (hx : S.g i = some x) {id : Int} (hn : id = -1 ∨ named x.q.es id = true) {j : Nat} (hj : nxt id = some j) :
    ∃ y, S.g j = some y ∧ y.up = some i ∧ y.on = true ∧ dep j = dep i + 1 ∧ j ≠ i ∧ id = gid j ∧ j < 32 := by
  unfold nxt at hj
  split at hj
  · cases hj
  · rename_i hne
    have h1 : ¬ id = -1 := fun e => hne (.inl e)
    have hn2 := hn.resolve_left h1
    obtain ⟨e, he, hid⟩ := named_of hn2
    have hp := (h.q i x hx).each e he
    obtain ⟨k, y, e1, e2, e3, e4⟩ := h.inn i x hx e he (by omega)
    have hjk : j = k := by
      injection hj with hj
      unfold gid at e1
      omega
    subst hjk
    obtain ⟨hne2, h0⟩ := h.up_ne e2 e3
    obtain ⟨p, z, f1, f2, f3⟩ := h.link j y e2 h0
    rw [e3] at f1; cases f1
    exact ⟨y, e2, e3, e4, f3, Ne.symm hne2, by rw [← hid, e1], h.few j y e2⟩
theorem walk_none {c : St → Int} {f : St → St} {n : Nat} {S : Hs} {g : Nat} {x : Gp} (hx : S.g g = some x) (h : nxt (c x.q) = none) : walkS c f (n + 1) S g = (S.set g (some { x with q := f { x.q with cur := c x.q } }), g, c x.q) := by
  rw [walkS, hx]; simp only [h]
theorem walk_some {c : St → Int} {f : St → St} {n : Nat} {S : Hs} {g j : Nat} {x : Gp} (hx : S.g g = some x) (h : nxt (c x.q) = some j) : walkS c f (n + 1) S g = walkS c f n (S.set g (some { x with q := f { x.q with cur := c x.q } })) j := by
  rw [walkS, hx]; simp only [h]
/-- Pick, Current, and being served. -/
theorem asks_pick (gr : Int) : Asks (fun st => chosen st gr) id := ⟨fun st hs _ => ⟨hs.pick gr, chosen_is st gr⟩, fun h hx => by unfold bodS; rw [show (id : St → St) _ = _ from rfl]; exact h.one hx rfl rfl (h.own _ _ hx) (h.q _ _ hx) (h.ids _ _ hx) (h.cur _ _ hx) (fun e he _ => named_mem he) (fun _ e => e)⟩
theorem asks_cur : Asks (fun st => st.cur) id := ⟨fun st hs hc => ⟨hs, hc⟩, (asks_pick 0).good⟩
theorem asks_charge {ns : Int} (hn : 0 ≤ ns) : Asks (fun st => st.cur) (fun st => chargeS st ns) := ⟨fun st hs hc => ⟨hs, hc⟩, fun h hx => h.charge hx hn⟩
end Go.Proofs.YtnnjbonejbmgdaaGreat.Hr

/- A range over a function whose rounds never leave it, over whatever that function itself does. Conditions: as the law states them. -/
namespace Go.Proofs.YtnnjbonejbmgdaaGreat.Hr
open Go.RowKit Go.Shelf
set_option linter.unusedVariables false

theorem range_on {n : Nat} {P : Program} {g : Operand} {ps : Array Tmp} {assign body : Code} {Q : Exit → Act → World → Prop} {a : Act} {w : World}
    (h1 : 1 ≤ n) {gf : Nat} {lb : Array Value} (hg : a.eval g = .func (.func gf) #[] lb) (eg : ∀ args w, (callFunc gf args).run P w = .ok (.enter gf args) w)
    (Pd : World → Prop)
    (hit : ∀ ro bo : Obj, ro.isCells = false → bo.isCells = false →
      (∀ (args : Array Value) (W : World) (R : World → Prop) (a₁ : Act), args.size = ps.size → W.heap[w.heap.size + 1]? = some ro → W.heap[w.heap.size]? = some (.deferred (some [])) →
        (∀ K : Act → World → Prop, K a₁ W → assign.wpIn (Fence.wide.inRound (w.heap.size + 1)) (n - 1 - 1) P (Exit.then K (fun _ _ _ => False)) { tmps := (ps.zip args).foldl (fun t (p, v) => t.setIfInBounds p v) a.tmps, defers := [] } W) →
        body.wpIn (Fence.wide.inRound (w.heap.size + 1)) (n - 1 - 1) P (fun e _ W3 => e = .normal ∧ W3.heap[w.heap.size + 1]? = some bo ∧ W3.heap[w.heap.size]? = some (.deferred (some [])) ∧ R (W3.putObj (w.heap.size + 1) ro)) a₁ (W.putObj (w.heap.size + 1) bo) →
        YieldAt Fence.wide (n - 1 - 1) P (w.heap.size + 1) args W (fun e W' => e = .returned (.bool true) ∧ W'.heap[w.heap.size + 1]? = some ro ∧ W'.heap[w.heap.size]? = some (.deferred (some [])) ∧ R W')) →
      CallsIn Fence.wide (n - 1) P gf (#[.func (.yield (w.heap.size + 1)) #[] #[]] ++ lb) ((w.alloc (.deferred (some []))).alloc ro)
        (fun e W' => (∃ v, e = .returned v) ∧ W'.heap[w.heap.size + 1]? = some ro ∧ W'.heap[w.heap.size]? = some (.deferred (some [])) ∧ Pd W'))
    (hdone : ∀ (W : World) (o : Obj), Pd W → W.heap[w.heap.size]? = some (.deferred (some [])) → w.heap.size + 1 < W.heap.size → Q .normal { a with defers := { target := .collected w.heap.size, args := #[] } :: a.defers } (W.putObj (w.heap.size + 1) o)) :
    (Code.rangeFunc g ps assign body).wpIn Fence.wide n P Q a w := by
  refine wpIn_rangeFunc ?_
  intro fn hfn
  obtain ⟨rec, hrec⟩ : ∃ rec : LoopState → Option Code → Loop, rec = fun st pe => { state := st, pending := pe, fn, tmps := a.tmps, params := ps, assign, body, defers := w.heap.size } := ⟨_, rfl⟩
  obtain ⟨W1, hW1⟩ : ∃ W1, (w.alloc (.deferred (some []))).alloc (.loop (rec .ready none)) = W1 := ⟨_, rfl⟩
  have hro : Fence.wide.round = none := rfl
  refine ⟨w.heap.size + 1, [{ target := .collected w.heap.size, args := #[] }], W1, { target := .fn (.func gf) lb, args := #[.func (.yield (w.heap.size + 1)) #[] #[]] }, W1, gf,
    #[.func (.yield (w.heap.size + 1)) #[] #[]] ++ lb, W1, ?_, ?_, ?_, ?_, fun _ => h1, ?_⟩
  · rw [← hW1, hrec]; exact run_enterLoop_outer _ _ _ _ _
  · simp only [resolve, hg]
    simp [go_sem]
  · intro f' hf'; trivial
  · simp [invoke, go_sem, eg]
  · have H := hit (.loop (rec .ready none)) (.loop { rec .ready none with state := .busy }) rfl rfl ?_
    · rw [hW1] at H
      refine H.mono ?_
      rintro e W2 ⟨⟨v, rfl⟩, hl, hk, hp⟩
      refine ⟨none, _, by have := run_endLoop (P := P) hl (by rw [hrec]; simp); rw [hrec] at this; exact this, hdone _ _ hp hk (Array.getElem?_eq_some_iff.1 hl).1⟩
    · intro args W R a₁ hsz hl hk hassign hbody
      have hlt : w.heap.size + 1 < W.heap.size := (Array.getElem?_eq_some_iff.1 hl).1
      have hy := run_yield (P := P) (args := args) hl (by rw [hrec]; exact hsz)
      rw [hrec] at hy
      refine ⟨fn, _, assign, body, hy, roundIn_of_wpIn hfn (hassign _ ?_)⟩
      clear hy
      refine ⟨_, run_beginRound hl (by rw [hrec]), ?_⟩
      refine wpIn_mono hbody ?_
      rintro e a3 W3 ⟨rfl, hl3, hk3, hR3⟩
      have hend := run_endRound (P := P) none hl3
      rw [hrec] at hend hR3 ⊢
      refine ⟨_, _, hend, rfl, ?_, ?_, hR3⟩
      · exact World.putObj_heap_same (Array.getElem?_eq_some_iff.1 hl3).1
      · exact (World.putObj_heap_other (by omega)).trans hk3
end Go.Proofs.YtnnjbonejbmgdaaGreat.Hr

/- How the queues of one P within one another lie in memory. Conditions: none. -/
namespace Go.Proofs.YtnnjbonejbmgdaaGreat.Hr
open Go.ChangeShapes Go.WideShapes Go.ChangeAt Go.RowKit Tree Queue
set_option linter.unusedVariables false
set_option linter.unusedSimpArgs false
set_option maxRecDepth 100000

abbrev hierT : TypeId := 84
abbrev groupT : TypeId := 88
def toG (b : Nat → Nat) (i : Nat) : Addr := ⟨b i, 0, none⟩
/-- A pointer to a group, if it is there. -/
def ptrG (S : Hs) (b : Nat → Nat) (i : Nat) : Option Addr := (S.g i).map fun _ => toG b i
def cellH (S : Hs) (b : Nat → Nat) (k : Nat) : Value := if k = 0 then .int .i64 S.cr else if k = 1 then .int .i64 S.gr else .pointer (ptrG S b (k - 2))
def topC (S : Hs) (b : Nat → Nat) : Array Value := Array.ofFn fun k : Fin 34 => cellH S b k.1
def cellsG (b qb : Nat → Nat) (i : Nat) (x : Gp) : Array Value :=
  #[.pointer (x.up.map (toG b)), .pointer (some ⟨qb i, 0, none⟩), .int .i64 x.own.id, .int .u64 x.own.wt, .int .i64 x.own.v, .int .u64 x.own.rm, .bool x.on, .bool x.halt]
theorem topC_size (S : Hs) (b : Nat → Nat) : (topC S b).size = 34 := by simp [topC]
theorem topC_at (S : Hs) (b : Nat → Nat) {k : Nat} (h : k < 34) : (topC S b)[k]? = some (cellH S b k) := by simp [topC, h]

/-- All of it; o: which block is whose. -/
structure Hl (w : World) (h : Nat) (b qb o : Nat → Nat) (S : Hs) : Prop where
  top : w.heap[h]? = some (.cells (topC S b) hierT (0, 0))
  grp : ∀ i x, S.g i = some x → w.heap[b i]? = some (.cells (cellsG b qb i x) groupT (0, 0))
  que : ∀ i x, S.g i = some x → Qu w (qb i) (fun k => o k ≠ i) x.q
  oh : o h = 64
  og : ∀ i x, S.g i = some x → o (b i) = 32 + i
  few : ∀ i x, S.g i = some x → i < 32
def Hb (w : World) (h : Nat) (O : Nat → Prop) (b qb : Nat → Nat) (S : Hs) : Prop := ∃ o, Hl w h b qb o S ∧ ∀ k, O k → 65 ≤ o k

theorem qu_on {w w' : World} {q : Nat} {O : Nat → Prop} {st : St} (h : Qu w q O st) (hb : ∀ k, k < w.heap.size → ¬ O k → w'.heap[k]? = w.heap[k]?) : Qu w' q O st := by
  obtain ⟨m, t, T, h⟩ := h
  have hq := h.blk.lt
  have hm := h.map.lt
  exact ⟨m, t, T, h.blk.on (hb q hq h.oq), h.map.on (hb m hm h.om), kept_on h.kept fun k hk => hb k (kept_lt h.kept k hk) (fun e => h.kept.apart k hk (.inl e)), h.keys, h.oq, h.om, h.qm⟩
theorem qu_sub {w : World} {q : Nat} {O O' : Nat → Prop} {st : St} (h : Qu w q O st) (hO : ∀ k, k < w.heap.size → O' k → O k) : Qu w q O' st :=
  h.other fun k hk => by
    by_cases e : k < w.heap.size
    · exact .inl (hO k e hk)
    · exact .inr (by omega)
section
variable {w w' : World} {h : Nat} {b qb o : Nat → Nat} {S : Hs} {O : Nat → Prop}
theorem Hl.on (H : Hl w h b qb o S) (hb : ∀ k, k < w.heap.size → o k < 65 → w'.heap[k]? = w.heap[k]?) : Hl w' h b qb o S :=
  ⟨(hb h (lt_of H.top) (by rw [H.oh]; omega)).trans H.top, fun i x hx => (hb _ (lt_of (H.grp i x hx)) (by rw [H.og i x hx]; have := H.few i x hx; omega)).trans (H.grp i x hx),
    fun i x hx => qu_on (H.que i x hx) fun k h1 h2 => hb k h1 (by have := H.few i x hx; simp only [ne_eq, Decidable.not_not] at h2; omega), H.oh, H.og, H.few⟩
theorem Hl.free (H : Hl w h b qb o S) {o' : Nat → Nat} (e : ∀ k, k < w.heap.size → o' k = o k) : Hl w h b qb o' S :=
  ⟨H.top, H.grp, fun i x hx => qu_sub (H.que i x hx) fun k h1 h2 => by rw [← e k h1]; exact h2, by rw [e h (lt_of H.top)]; exact H.oh, fun i x hx => by rw [e _ (lt_of (H.grp i x hx))]; exact H.og i x hx, H.few⟩
theorem Hb.lt (H : Hb w h O b qb S) : h < w.heap.size := by obtain ⟨o, H, _⟩ := H; exact lt_of H.top
theorem Hb.fresh (H : Hb w h O b qb S) (hg : Below w.heap.size w w') : Hb w' h O b qb S := by
  obtain ⟨o, H, hO⟩ := H
  exact ⟨o, H.on fun k hk _ => hg.block k hk, hO⟩
/-- Other blocks are held apart from now on. -/
theorem Hb.other (H : Hb w h O b qb S) {O' : Nat → Prop} (hO' : ∀ k, O' k → O k ∨ w.heap.size ≤ k) : Hb w h O' b qb S := by
  obtain ⟨o, H, hO⟩ := H
  refine ⟨fun k => if k < w.heap.size then o k else 65, H.free fun k hk => if_pos hk, fun k hk => ?_⟩
  show 65 ≤ if k < w.heap.size then o k else 65
  split
  · rcases hO' k hk with e | e
    · exact hO k e
    · omega
  · omega
theorem Hb.keep (H : Hb w h O b qb S) (hb : ∀ k, k < w.heap.size → ¬ O k → w'.heap[k]? = w.heap[k]?) : Hb w' h O b qb S := by
  obtain ⟨o, H, hO⟩ := H
  exact ⟨o, H.on fun k hk ho => hb k hk (fun e => by have := hO k e; omega), hO⟩
theorem Hb.away (H : Hb w h O b qb S) {p : Addr} (hp : O p.block) (u : Value) : Hb (w.setCell p u) h O b qb S :=
  H.keep fun k _ hk => Below.heap_setCell _ _ _ _ (fun e => hk (e ▸ hp))
theorem Hb.few (H : Hb w h O b qb S) {i : Nat} {x : Gp} (hx : S.g i = some x) : i < 32 := by obtain ⟨o, H, _⟩ := H; exact H.few i x hx
/-- What is in it, cell by cell. -/
theorem Hb.top (H : Hb w h O b qb S) : w.cell? ⟨h, 0, none⟩ = some (.int .i64 S.cr) ∧ w.cell? ⟨h, 1, none⟩ = some (.int .i64 S.gr) ∧ (∀ i, i < 32 → w.cell? ⟨h, 2 + i, none⟩ = some (.pointer (ptrG S b i))) ∧ (∀ j, w.frozen? ⟨h, j, none⟩ = false) := by
  obtain ⟨o, H, _⟩ := H
  refine ⟨?_, ?_, fun i hi => ?_, fun j => frozen_of_row w h j _ _ H.top⟩
  · rw [cell_of_row w h _ _ _ _ H.top, topC_at S b (by omega)]; rfl
  · rw [cell_of_row w h _ _ _ _ H.top, topC_at S b (by omega)]; rfl
  · rw [cell_of_row w h _ _ _ _ H.top, topC_at S b (by omega)]
    unfold cellH
    rw [if_neg (by omega), if_neg (by omega)]
    congr 3
    omega
theorem Hb.grp (H : Hb w h O b qb S) {i : Nat} {x : Gp} (hx : S.g i = some x) : w.heap[b i]? = some (.cells (cellsG b qb i x) groupT (0, 0)) := by obtain ⟨o, H, _⟩ := H; exact H.grp i x hx
def CellsG (w : World) (b qb : Nat → Nat) (i : Nat) (x : Gp) : Prop :=
    w.cell? ⟨b i, 0, none⟩ = some (.pointer (x.up.map (toG b))) ∧ w.cell? ⟨b i, 1, none⟩ = some (.pointer (some ⟨qb i, 0, none⟩)) ∧ w.cell? ⟨b i, 2, none⟩ = some (.int .i64 x.own.id) ∧ w.cell? ⟨b i, 3, none⟩ = some (.int .u64 x.own.wt) ∧
    w.cell? ⟨b i, 4, none⟩ = some (.int .i64 x.own.v) ∧ w.cell? ⟨b i, 5, none⟩ = some (.int .u64 x.own.rm) ∧ w.cell? ⟨b i, 6, none⟩ = some (.bool x.on) ∧ w.cell? ⟨b i, 7, none⟩ = some (.bool x.halt) ∧ (∀ j, w.frozen? ⟨b i, j, none⟩ = false)
theorem grp_cells {i : Nat} {x : Gp} (h : w.heap[b i]? = some (.cells (cellsG b qb i x) groupT (0, 0))) : CellsG w b qb i x := by
  refine ⟨?_, ?_, ?_, ?_, ?_, ?_, ?_, ?_, fun j => frozen_of_row w _ j _ _ h⟩
  all_goals rw [cell_of_row w _ _ _ _ _ h]; rfl
theorem Hb.cells (H : Hb w h O b qb S) {i : Nat} {x : Gp} (hx : S.g i = some x) : CellsG w b qb i x := grp_cells (H.grp hx)
/-- One group's queue by itself, and what it may do. -/
theorem Hb.que (H : Hb w h O b qb S) (hO : ∀ k, O k → k < w.heap.size) {i : Nat} {x : Gp} (hx : S.g i = some x) :
    ∃ Oq : Nat → Prop, Qu w (qb i) Oq x.q ∧ (∀ k, Oq k → k < w.heap.size) ∧ (∀ k, O k → Oq k) ∧
      ∀ w' st, Qu w' (qb i) Oq st → Same Oq w w' → Hb w' h O b qb (S.set i (some { x with q := st })) := by
  obtain ⟨o, H, h65⟩ := H
  have hi := H.few i x hx
  refine ⟨fun k => k < w.heap.size ∧ o k ≠ i, qu_sub (H.que i x hx) fun k _ hk => hk.2, fun k hk => hk.1, fun k hk => ⟨hO k hk, by have := h65 k hk; omega⟩, fun w' st hq hs => ?_⟩
  have look : ∀ j z, (S.set i (some { x with q := st })).g j = some z → ∃ z0, S.g j = some z0 ∧ cellsG b qb j z = cellsG b qb j z0 := fun j z hz => by
    by_cases e : j = i
    · subst e
      rw [Hs.set_same] at hz
      cases hz
      exact ⟨x, hx, rfl⟩
    · rw [Hs.set_other _ _ e] at hz
      exact ⟨z, hz, rfl⟩
  have htop : topC (S.set i (some { x with q := st })) b = topC S b := by
    unfold topC
    congr 1
    funext k
    unfold cellH
    split
    · rfl
    · split
      · rfl
      · unfold ptrG
        by_cases e : k.1 - 2 = i
        · rw [e, Hs.set_same, hx]; rfl
        · rw [Hs.set_other _ _ e]
  have osz : ∀ k, k < w.heap.size → (if k < w.heap.size then o k else if k < w'.heap.size then i else 65) = o k := fun k hk => if_pos hk
  refine ⟨fun k => if k < w.heap.size then o k else if k < w'.heap.size then i else 65, ⟨?_, ?_, ?_, ?_, ?_, ?_⟩, fun k hk => ?_⟩
  · rw [htop, hs.block h ⟨lt_of H.top, by rw [H.oh]; omega⟩]; exact H.top
  · intro j z hz
    obtain ⟨z0, h0, hc⟩ := look j z hz
    have := H.og j z0 h0
    rw [hc, hs.block (b j) ⟨lt_of (H.grp j z0 h0), by omega⟩]
    exact H.grp j z0 h0
  · intro j z hz
    by_cases e : j = i
    · subst e
      rw [Hs.set_same] at hz
      cases hz
      exact qu_sub hq fun k h1 h2 => by
        by_cases e : k < w.heap.size
        · simp only [e, if_true] at h2; exact ⟨e, h2⟩
        · simp [e, h1] at h2
    · rw [Hs.set_other _ _ e] at hz
      have hqj := H.que j z hz
      have hj := H.few j z hz
      refine qu_sub (O := fun k => w.heap.size ≤ k ∨ o k ≠ j) (qu_on (qu_sub (O' := fun k => w.heap.size ≤ k ∨ o k ≠ j) hqj fun k h1 h2 => h2.resolve_left (by omega)) fun k h1 h2 => hs.block k ⟨h1, fun e2 => h2 (.inr (by omega))⟩) fun k h1 h2 => ?_
      by_cases e2 : k < w.heap.size
      · exact .inr (by simpa [e2] using h2)
      · exact .inl (by omega)
  · show (if h < w.heap.size then _ else _) = 64
    rw [osz h (lt_of H.top)]; exact H.oh
  · intro j z hz
    obtain ⟨z0, h0, hc⟩ := look j z hz
    show (if b j < w.heap.size then _ else _) = _
    rw [osz _ (lt_of (H.grp j z0 h0))]; exact H.og j z0 h0
  · intro j z hz
    obtain ⟨z0, h0, hc⟩ := look j z hz
    exact H.few j z0 h0
  · show 65 ≤ if k < w.heap.size then _ else _
    rw [osz k (hO k hk)]; exact h65 k hk
/-- A store into one of a group's own cells. -/
theorem Hb.put (H : Hb w h O b qb S) {i : Nat} {x x' : Gp} (hx : S.g i = some x) (hq : x'.q = x.q) (j : Nat) (u : Value) (hc : (cellsG b qb i x).setIfInBounds j u = cellsG b qb i x') : Hb (w.setCell ⟨b i, j, none⟩ u) h O b qb (S.set i (some x')) := by
  obtain ⟨o, H, h65⟩ := H
  have hi := H.few i x hx
  have hne : h ≠ b i := fun e => by have := H.oh; rw [e, H.og i x hx] at this; omega
  have htop : topC (S.set i (some x')) b = topC S b := by
    unfold topC
    congr 1
    funext k
    unfold cellH
    split
    · rfl
    · split
      · rfl
      · unfold ptrG
        by_cases e : k.1 - 2 = i
        · rw [e, Hs.set_same, hx]; rfl
        · rw [Hs.set_other _ _ e]
  refine ⟨o, ⟨?_, ?_, ?_, H.oh, ?_, ?_⟩, h65⟩
  · rw [htop, Below.heap_setCell _ _ _ _ hne]; exact H.top
  · intro k z hz
    by_cases e : k = i
    · subst e
      rw [Hs.set_same] at hz
      cases hz
      rw [heap_setCell_same w (b k) j _ _ _ (H.grp k x hx), hc]
    · rw [Hs.set_other _ _ e] at hz
      rw [Below.heap_setCell _ _ _ _ (fun e2 => by have e2' : b k = b i := e2; have h1 := H.og k z hz; have h2 := H.og i x hx; rw [e2', h2] at h1; omega)]
      exact H.grp k z hz
  · intro k z hz
    have key : ∀ z0, S.g k = some z0 → Qu (w.setCell ⟨b i, j, none⟩ u) (qb k) (fun m => o m ≠ k) z0.q := fun z0 h0 => qu_on (H.que k z0 h0) fun m _ hm => Below.heap_setCell _ _ _ _ (fun e => by
      have e' : m = b i := e
      have h2 := H.og i x hx
      have := H.few k z0 h0
      simp only [ne_eq, Decidable.not_not] at hm
      rw [e', h2] at hm
      omega)
    by_cases e : k = i
    · subst e
      rw [Hs.set_same] at hz
      cases hz
      rw [hq]
      exact key x hx
    · rw [Hs.set_other _ _ e] at hz
      exact key z hz
  · intro k z hz
    by_cases e : k = i
    · subst e; exact H.og k x hx
    · rw [Hs.set_other _ _ e] at hz; exact H.og k z hz
  · intro k z hz
    by_cases e : k = i
    · subst e; exact hi
    · rw [Hs.set_other _ _ e] at hz; exact H.few k z hz
end
/-- What is told, and the queues behind it. -/
def DidH (v : Value) (S : Hs) (h : Nat) (O : Nat → Prop) (b qb : Nat → Nat) (w : World) (e : Ending) (w' : World) : Prop := e = .returned v ∧ Hb w' h O b qb S ∧ Same O w w'
end Go.Proofs.YtnnjbonejbmgdaaGreat.Hr

/- What the small functions of package hier answer: at, linked, queue, numbers and Ids. Conditions: as each fact states them. -/
namespace Go.Proofs.YtnnjbonejbmgdaaGreat.Hr
open Go.ChangeShapes Go.WideShapes Go.ChangeAt Go.RowKit Tree Queue
set_option linter.unusedVariables false
set_option linter.unusedSimpArgs false
set_option maxRecDepth 100000

theorem alloc1 (w : World) (o : Obj) : Below w.heap.size w (w.alloc o) := (Below.refl _ w).alloc (Nat.le_refl _) o
theorem isTask_ (n : Int) (w : World) : Calls Tryz.prog 70 #[.int .i64 n] w (Is (.bool (decide (0 ≤ n ∧ n < 64))) w) := by
  have hg := Below.refl w.heap.size w
  by_cases h1 : 0 ≤ n
  · by_cases h2 : n < 64
    · rw [decide_eq_true (by omega)]
      go_enter Tryz.func70, Tryz.ntmps70
      go_wp2
      go_ret; exact ⟨by simp_all, hg⟩
    · rw [decide_eq_false (by omega)]
      go_enter Tryz.func70, Tryz.ntmps70
      go_wp2
      go_ret; exact ⟨by simp_all, hg⟩
  · rw [decide_eq_false (by omega)]
    go_enter Tryz.func70, Tryz.ntmps70
    go_wp2
    go_ret; exact ⟨by simp_all, hg⟩
theorem isGroup_ (n : Int) (w : World) : Calls Tryz.prog 74 #[.int .i64 n] w (Is (.bool (decide (0 ≤ n ∧ n < 32))) w) := by
  have hg := Below.refl w.heap.size w
  by_cases h1 : 0 ≤ n
  · by_cases h2 : n < 32
    · rw [decide_eq_true (by omega)]
      go_enter Tryz.func74, Tryz.ntmps74
      go_wp2
      go_ret; exact ⟨by simp_all, hg⟩
    · rw [decide_eq_false (by omega)]
      go_enter Tryz.func74, Tryz.ntmps74
      go_wp2
      go_ret; exact ⟨by simp_all, hg⟩
  · rw [decide_eq_false (by omega)]
    go_enter Tryz.func74, Tryz.ntmps74
    go_wp2
    go_ret; exact ⟨by simp_all, hg⟩
theorem idOfTask_ (n : Int) (w : World) (h0 : 0 ≤ n) (h1 : n < 64) : Calls Tryz.prog 72 #[.int .i64 n] w (Is (.int .i64 (2 * n)) w) := by
  have hg := Below.refl w.heap.size w
  go_enter Tryz.func72, Tryz.ntmps72
  go_wp2
  go_ret; exact ⟨by go_num, hg⟩
theorem idOfGroup_ (n : Nat) (w : World) (h1 : n < 32) : Calls Tryz.prog 76 #[.int .i64 n] w (Is (.int .i64 (gid n)) w) := by
  have hg := Below.refl w.heap.size w
  unfold gid
  go_enter Tryz.func76, Tryz.ntmps76
  go_wp2
  go_ret; exact ⟨by go_num, hg⟩
/-- The task of an Id; -1: of none. -/
def taskS (id : Int) : Int := if id = -1 then -1 else id / 2
theorem taskOf_ (n : Int) (w : World) (h0 : -1 ≤ n) (h1 : n < 128) : Calls Tryz.prog 104 #[.int .i64 n] w (Is (.int .i64 (taskS n)) w) := by
  have hg := Below.refl w.heap.size w
  unfold taskS
  by_cases h : n = -1
  · rw [if_pos h]
    go_enter Tryz.func104, Tryz.ntmps104
    go_wp2
    go_ret; exact ⟨by simp_all, hg⟩
  · rw [if_neg h]
    have h2 : (n == -1) = false := by simpa using h
    go_enter Tryz.func104, Tryz.ntmps104
    go_wp2
    go_ret; exact ⟨by go_num, hg⟩

/-- A pointer to the group of a number, if it is there. -/
def ptrAt (S : Hs) (b : Nat → Nat) (g : Int) : Option Addr := if 0 ≤ g ∧ g < 32 then ptrG S b g.toNat else none
theorem ptrAt_nat {S : Hs} {b : Nat → Nat} {i : Nat} (h : i < 32) : ptrAt S b i = ptrG S b i := by unfold ptrAt; rw [if_pos (by omega)]; rfl
theorem ptrAt_out {S : Hs} {b : Nat → Nat} {g : Int} (h : ¬ (0 ≤ g ∧ g < 32)) : ptrAt S b g = none := by unfold ptrAt; rw [if_neg h]
theorem ptrG_some {S : Hs} {b : Nat → Nat} {i : Nat} {x : Gp} (h : S.g i = some x) : ptrG S b i = some (toG b i) := by unfold ptrG; rw [h]; rfl
theorem ptrG_none {S : Hs} {b : Nat → Nat} {i : Nat} (h : S.g i = none) : ptrG S b i = none := by unfold ptrG; rw [h]; rfl
theorem at_nil (g : Int) (w : World) : Calls Tryz.prog 69 #[.pointer none, .int .i64 g] w (Is (.pointer none) w) := by
  have hg := Below.refl w.heap.size w
  go_enter Tryz.func69, Tryz.ntmps69
  go_wp2
  go_ret; exact ⟨rfl, hg⟩
theorem at_ (w : World) (h : Nat) (O : Nat → Prop) (b qb : Nat → Nat) (S : Hs) (H : Hb w h O b qb S) (g : Int) : Calls Tryz.prog 69 #[.pointer (some ⟨h, 0, none⟩), .int .i64 g] w (Is (.pointer (ptrAt S b g)) w) := by
  have IG := Lib.hid (fun w => isGroup_ g w)
  obtain ⟨c0, c1, cg, fz⟩ := H.top
  have hg := Below.refl w.heap.size w
  have hlt := H.lt
  by_cases hh : 0 ≤ g ∧ g < 32
  · obtain ⟨n, rfl⟩ : ∃ n : Nat, g = n := ⟨g.toNat, by omega⟩
    rw [decide_eq_true hh] at IG
    rw [ptrAt_nat (by omega)]
    have c := cg n (by omega)
    have h2 : (n : Int) < 32 := hh.2
    clear H cg hh
    generalize ptrG S b n = p at *
    go_enter Tryz.func69, Tryz.ntmps69
    go_wp2_with (go_at_call 74; refine (IG.out _).mono ?_; rintro e w1 ⟨rfl, hg1⟩; have c' := (hg1.cell (p := ⟨h, 2 + n, none⟩) hlt).trans c)
    go_ret; exact ⟨rfl, hg1⟩
  · rw [decide_eq_false hh] at IG
    rw [ptrAt_out hh]
    clear H cg hh
    go_enter Tryz.func69, Tryz.ntmps69
    go_wp2_with (go_at_call 74; refine (IG.out _).mono ?_; rintro e w1 ⟨rfl, hg1⟩)
    go_ret; exact ⟨rfl, hg1⟩
/-- The same, but of the root none. -/
def ptrL (S : Hs) (b : Nat → Nat) (g : Int) : Option Addr := if g = 0 then none else ptrAt S b g
theorem linked_nil (g : Int) (w : World) : Calls Tryz.prog 62 #[.pointer none, .int .i64 g] w (Is (.pointer none) w) := by
  have hg := Below.refl w.heap.size w
  have A := Lib.hid (fun w => at_nil g w)
  by_cases h : g = 0
  · go_enter Tryz.func62, Tryz.ntmps62
    go_wp2
    go_ret; exact ⟨rfl, hg⟩
  · have h2 : (g == 0) = false := by simpa using h
    go_enter Tryz.func62, Tryz.ntmps62
    go_wp2_with (go_at_call 69; refine (A.out _).mono ?_; rintro e w1 ⟨rfl, hg1⟩)
    go_ret; exact ⟨rfl, hg1⟩
theorem linked_ (w : World) (h : Nat) (O : Nat → Prop) (b qb : Nat → Nat) (S : Hs) (H : Hb w h O b qb S) (g : Int) : Calls Tryz.prog 62 #[.pointer (some ⟨h, 0, none⟩), .int .i64 g] w (Is (.pointer (ptrL S b g)) w) := by
  have hg := Below.refl w.heap.size w
  have A := Lib.hid (at_ w h O b qb S H g)
  unfold ptrL
  by_cases hh : g = 0
  · rw [if_pos hh]
    go_enter Tryz.func62, Tryz.ntmps62
    go_wp2
    go_ret; exact ⟨rfl, hg⟩
  · rw [if_neg hh]
    have h2 : (g == 0) = false := by simpa using hh
    generalize ptrAt S b g = p at *
    go_enter Tryz.func62, Tryz.ntmps62
    go_wp2_with (go_at_call 69; refine A.out.mono ?_; rintro e w1 ⟨rfl, hg1⟩)
    go_ret; exact ⟨rfl, hg1⟩
/-- A pointer to a group's queue. -/
def ptrQ (S : Hs) (qb : Nat → Nat) (g : Int) : Option Addr := if 0 ≤ g ∧ g < 32 then (S.g g.toNat).map (fun _ => ⟨qb g.toNat, 0, none⟩) else none
theorem queue_nil (g : Int) (w : World) : Calls Tryz.prog 59 #[.pointer none, .int .i64 g] w (Is (.pointer none) w) := by
  have hg := Below.refl w.heap.size w
  have A := Lib.hid (fun w => at_nil g w)
  go_enter Tryz.func59, Tryz.ntmps59
  go_wp2_with (go_at_call 69; refine (A.out _).mono ?_; rintro e w1 ⟨rfl, hg1⟩)
  go_ret; exact ⟨rfl, hg1⟩
/-- A number is a group's that is there, or it isn't. -/
theorem there_cases (S : Hs) (g : Int) : (∃ (i : Nat) (x : Gp), g = i ∧ i < 32 ∧ S.g i = some x) ∨ ((∀ b, ptrAt S b g = none) ∧ (∀ qb, ptrQ S qb g = none)) := by
  by_cases h : 0 ≤ g ∧ g < 32
  · obtain ⟨n, rfl⟩ : ∃ n : Nat, g = n := ⟨g.toNat, by omega⟩
    cases hx : S.g n with
    | some x => exact .inl ⟨n, x, rfl, by omega, hx⟩
    | none => exact .inr ⟨fun b => by rw [ptrAt_nat (by omega), ptrG_none hx], fun qb => by unfold ptrQ; rw [if_pos h]; simp [hx]⟩
  · exact .inr ⟨fun b => ptrAt_out h, fun qb => by unfold ptrQ; rw [if_neg h]⟩
theorem queue_ (w : World) (h : Nat) (O : Nat → Prop) (b qb : Nat → Nat) (S : Hs) (H : Hb w h O b qb S) (g : Int) : Calls Tryz.prog 59 #[.pointer (some ⟨h, 0, none⟩), .int .i64 g] w (Is (.pointer (ptrQ S qb g)) w) := by
  have A := Lib.hid (at_ w h O b qb S H g)
  rcases there_cases S g with ⟨i, x, rfl, hi, hx⟩ | ⟨h1, h2⟩
  · rw [ptrAt_nat hi, ptrG_some hx] at A
    have hq : ptrQ S qb (i : Int) = some ⟨qb i, 0, none⟩ := by unfold ptrQ; rw [if_pos (by omega)]; simp [hx]
    rw [hq]
    obtain ⟨d0, d1, _⟩ := H.cells hx
    have hlt := lt_of (H.grp hx)
    unfold toG at *
    clear H
    go_enter Tryz.func59, Tryz.ntmps59
    go_wp2_with (go_at_call 69; refine A.out.mono ?_; rintro e w1 ⟨rfl, hg1⟩; have d1' := (hg1.cell (p := ⟨b i, 1, none⟩) hlt).trans d1)
    go_ret; exact ⟨rfl, hg1⟩
  · rw [h1 b] at A
    rw [h2 qb]
    clear H
    go_enter Tryz.func59, Tryz.ntmps59
    go_wp2_with (go_at_call 69; refine A.out.mono ?_; rintro e w1 ⟨rfl, hg1⟩)
    go_ret; exact ⟨rfl, hg1⟩
end Go.Proofs.YtnnjbonejbmgdaaGreat.Hr

/- What Queue, Min, Load, On and Stopped of package hier answer, and its groups' busy and should. Conditions: the queues are sound. -/
namespace Go.Proofs.YtnnjbonejbmgdaaGreat.Hr
open Go.ChangeShapes Go.WideShapes Go.ChangeAt Go.RowKit Tree Queue
set_option linter.unusedVariables false
set_option linter.unusedSimpArgs false
set_option maxRecDepth 100000

theorem ft {a b c : World} (h : Below a.heap.size a b) (k : Below b.heap.size b c) : Below a.heap.size a c := h.trans (k.mono h.size)
/-- What is told of a group's queue. -/
def minS (S : Hs) (g : Int) : Int := if 0 ≤ g ∧ g < 32 then (match S.g g.toNat with | some x => x.q.min | none => 0) else 0
def loadS (S : Hs) (g : Int) : Int := if 0 ≤ g ∧ g < 32 then (match S.g g.toNat with | some x => total x.q.es | none => 0) else 0
def entsS (S : Hs) (g : Int) : List Ent := if 0 ≤ g ∧ g < 32 then (match S.g g.toNat with | some x => x.q.es | none => []) else []
def onS (S : Hs) (g : Int) : Bool := if 1 ≤ g ∧ g < 32 then (match S.g g.toNat with | some x => x.on | none => false) else false
def haltS (S : Hs) (g : Int) : Bool := if 1 ≤ g ∧ g < 32 then (match S.g g.toNat with | some x => x.halt | none => false) else false
theorem told_nil (w w' : World) (h : Below w.heap.size w w') : Queue.Told [] w (.returned (.slice none 0 0)) w' := ⟨_, rfl, ⟨⟨rfl, .inl ⟨rfl, rfl⟩⟩, fun k hk => by cases hk⟩, h⟩
theorem told_trans {es : List Ent} {w w1 w2 : World} {e : Ending} (h : Below w.heap.size w w1) (k : Queue.Told es w1 e w2) : Queue.Told es w e w2 := by
  obtain ⟨v, rfl, hr, hb⟩ := k
  exact ⟨v, rfl, ⟨hr.1, fun k hk e => hr.2 k hk (Nat.lt_of_lt_of_le e h.size)⟩, ft h hb⟩
theorem ptrQ_cases (S : Hs) (g : Int) : (∃ (i : Nat) (x : Gp), g = i ∧ i < 32 ∧ S.g i = some x ∧ minS S g = x.q.min ∧ loadS S g = total x.q.es ∧ entsS S g = x.q.es ∧ ∀ qb, ptrQ S qb g = some ⟨qb i, 0, none⟩) ∨
    (minS S g = 0 ∧ loadS S g = 0 ∧ entsS S g = [] ∧ ∀ qb, ptrQ S qb g = none) := by
  unfold minS loadS entsS ptrQ
  by_cases h : 0 ≤ g ∧ g < 32
  · obtain ⟨n, rfl⟩ : ∃ n : Nat, g = n := ⟨g.toNat, by omega⟩
    simp only [if_pos h, Int.toNat_natCast]
    cases hx : S.g n with
    | some x => exact .inl ⟨n, x, rfl, by omega, hx, by simp [hx], by simp [hx], by simp [hx], fun _ => by simp [hx]⟩
    | none => exact .inr ⟨by simp [hx], by simp [hx], by simp [hx], fun _ => by simp [hx]⟩
  · exact .inr ⟨if_neg h, if_neg h, if_neg h, fun _ => if_neg h⟩
theorem que_at {w : World} {h : Nat} {O : Nat → Prop} {b qb : Nat → Nat} {S : Hs} (H : Hb w h O b qb S) {i : Nat} {x : Gp} (hx : S.g i = some x) : Qu w (qb i) (fun _ => False) x.q := by
  obtain ⟨o, H, _⟩ := H
  exact qu_sub (H.que i x hx) fun _ _ e => e.elim
theorem sound_few {st : St} (h : Sound st) : (∀ e ∈ st.es, 0 ≤ e.wt ∧ e.wt ≤ 262144) ∧ st.es.length ≤ 500 ∧ (∀ e ∈ st.es, I64 e.id) ∧ (∀ e ∈ st.es, I64 e.v) := by
  have := h.few
  refine ⟨fun e he => ?_, by omega, fun e he => ?_, fun e he => ?_⟩ <;> have := h.each e he <;> (try unfold I64 at *) <;> omega
theorem min_ (w : World) (h : Nat) (O : Nat → Prop) (b qb : Nat → Nat) (S : Hs) (H : Hb w h O b qb S) (g : Int) : Calls Tryz.prog 26 #[.pointer (some ⟨h, 0, none⟩), .int .i64 g] w (Is (.int .i64 (minS S g)) w) := by
  have A := Lib.hid (queue_ w h O b qb S H g)
  rcases ptrQ_cases S g with ⟨i, x, rfl, hi, hx, e1, _, _, e4⟩ | ⟨e1, _, _, e4⟩
  · rw [e1]
    rw [e4] at A
    have M := Lib.hid (fun w1 (hg : Below w.heap.size w w1) => minss w1 (qb i) _ x.q (que_at (H.fresh hg) hx))
    generalize x.q.min = v at *
    clear H e1 e4 hx
    go_enter Tryz.func26, Tryz.ntmps26
    go_wp2_with (first
      | (go_at_call 59; refine A.out.mono ?_; rintro e w1 ⟨rfl, hg1⟩)
      | (go_at_call 66; refine (M.out _ hg1).mono ?_; rintro e w2 ⟨rfl, hg2⟩))
    go_ret; exact ⟨rfl, ft hg1 hg2⟩
  · rw [e1]
    rw [e4] at A
    have M := Lib.hid (fun w => min_nil w)
    clear H e1 e4
    go_enter Tryz.func26, Tryz.ntmps26
    go_wp2_with (first
      | (go_at_call 59; refine A.out.mono ?_; rintro e w1 ⟨rfl, hg1⟩)
      | (go_at_call 66; refine (M.out _).mono ?_; rintro e w2 ⟨rfl, hg2⟩))
    go_ret; exact ⟨rfl, ft hg1 hg2⟩
theorem load_ (w : World) (h : Nat) (O : Nat → Prop) (b qb : Nat → Nat) (S : Hs) (H : Hb w h O b qb S) (hS : ∀ i x, S.g i = some x → Sound x.q) (g : Int) : Calls Tryz.prog 19 #[.pointer (some ⟨h, 0, none⟩), .int .i64 g] w (Is (.int .u64 (loadS S g)) w) := by
  have A := Lib.hid (queue_ w h O b qb S H g)
  rcases ptrQ_cases S g with ⟨i, x, rfl, hi, hx, _, e1, _, e4⟩ | ⟨_, e1, _, e4⟩
  · rw [e1]
    rw [e4] at A
    have hs := hS i x hx
    have M := Lib.hid (fun w1 (hg : Below w.heap.size w w1) => loads w1 (qb i) _ x.q (que_at (H.fresh hg) hx) hs.once (sound_few hs).1 (sound_few hs).2.1)
    generalize total x.q.es = v at *
    clear H e1 e4 hx hs hS
    go_enter Tryz.func19, Tryz.ntmps19
    go_wp2_with (first
      | (go_at_call 59; refine A.out.mono ?_; rintro e w1 ⟨rfl, hg1⟩)
      | (go_at_call 61; refine (M.out _ hg1).mono ?_; rintro e w2 ⟨rfl, hg2⟩))
    go_ret; exact ⟨rfl, ft hg1 hg2⟩
  · rw [e1]
    rw [e4] at A
    have M := Lib.hid (fun w => load_nil w)
    clear H e1 e4 hS
    go_enter Tryz.func19, Tryz.ntmps19
    go_wp2_with (first
      | (go_at_call 59; refine A.out.mono ?_; rintro e w1 ⟨rfl, hg1⟩)
      | (go_at_call 61; refine (M.out _).mono ?_; rintro e w2 ⟨rfl, hg2⟩))
    go_ret; exact ⟨rfl, ft hg1 hg2⟩
theorem ents_ (w : World) (h : Nat) (O : Nat → Prop) (b qb : Nat → Nat) (S : Hs) (H : Hb w h O b qb S) (hS : ∀ i x, S.g i = some x → Sound x.q) (g : Int) : Calls Tryz.prog 18 #[.pointer (some ⟨h, 0, none⟩), .int .i64 g] w (Queue.Told (entsS S g) w) := by
  have A := Lib.hid (queue_ w h O b qb S H g)
  rcases ptrQ_cases S g with ⟨i, x, rfl, hi, hx, _, _, e1, e4⟩ | ⟨_, _, e1, e4⟩
  · rw [e1]
    rw [e4] at A
    have hs := hS i x hx
    have M := Lib.hid (fun w1 (hg : Below w.heap.size w w1) => ents w1 (qb i) _ x.q (que_at (H.fresh hg) hx) hs.once (sound_few hs).2.2.1 (sound_few hs).2.1)
    generalize x.q.es = v at *
    clear H e1 e4 hx hs hS
    go_enter Tryz.func18, Tryz.ntmps18
    go_wp2_with (first
      | (go_at_call 59; refine A.out.mono ?_; rintro e w1 ⟨rfl, hg1⟩)
      | (go_at_call 60; refine (M.out _ hg1).mono ?_; rintro e w2 ⟨v2, rfl, hr2, hg2⟩; obtain ⟨ao, cap, rfl, _⟩ := hr2.shape))
    go_ret; exact told_trans hg1 ⟨_, rfl, hr2, hg2⟩
  · rw [e1]
    rw [e4] at A
    have M := Lib.hid (fun w => ents_nil w)
    clear H e1 e4 hS
    go_enter Tryz.func18, Tryz.ntmps18
    go_wp2_with (first
      | (go_at_call 59; refine A.out.mono ?_; rintro e w1 ⟨rfl, hg1⟩)
      | (go_at_call 60; refine (M.out _).mono ?_; rintro e w2 ⟨rfl, hg2⟩))
    go_ret; exact told_nil _ _ (ft hg1 hg2)
theorem ptrL_cases (S : Hs) (g : Int) : (∃ (i : Nat) (x : Gp), g = i ∧ i ≠ 0 ∧ i < 32 ∧ S.g i = some x ∧ onS S g = x.on ∧ haltS S g = x.halt ∧ ∀ b, ptrL S b g = some (toG b i)) ∨
    (onS S g = false ∧ haltS S g = false ∧ ∀ b, ptrL S b g = none) := by
  unfold onS haltS ptrL
  by_cases h0 : g = 0
  · subst h0
    exact .inr ⟨rfl, rfl, fun _ => rfl⟩
  · simp only [if_neg h0]
    rcases there_cases S g with ⟨i, x, rfl, hi, hx⟩ | ⟨h1, _⟩
    · refine .inl ⟨i, x, rfl, by omega, hi, hx, ?_, ?_, fun b => by rw [ptrAt_nat hi, ptrG_some hx]⟩
      · rw [if_pos (by omega)]; simp [hx]
      · rw [if_pos (by omega)]; simp [hx]
    · by_cases hh : 1 ≤ g ∧ g < 32
      · have hn : S.g g.toNat = none := by
          have := h1 (fun _ => 0)
          unfold ptrAt ptrG at this
          rw [if_pos (by omega)] at this
          simpa using this
        exact .inr ⟨by rw [if_pos hh, hn], by rw [if_pos hh, hn], h1⟩
      · exact .inr ⟨if_neg hh, if_neg hh, h1⟩
theorem on_ (w : World) (h : Nat) (O : Nat → Prop) (b qb : Nat → Nat) (S : Hs) (H : Hb w h O b qb S) (g : Int) : Calls Tryz.prog 20 #[.pointer (some ⟨h, 0, none⟩), .int .i64 g] w (Is (.bool (onS S g)) w) := by
  have A := Lib.hid (linked_ w h O b qb S H g)
  rcases ptrL_cases S g with ⟨i, x, rfl, _, hi, hx, e1, _, e4⟩ | ⟨e1, _, e4⟩
  · rw [e1]
    rw [e4] at A
    obtain ⟨_, _, _, _, _, _, d6, _, _⟩ := H.cells hx
    have hlt := lt_of (H.grp hx)
    unfold toG at *
    clear H e1 e4 hx
    generalize x.on = v at *
    go_enter Tryz.func20, Tryz.ntmps20
    go_wp2_with (go_at_call 62; refine A.out.mono ?_; rintro e w1 ⟨rfl, hg1⟩; have d6' := (hg1.cell (p := ⟨b i, 6, none⟩) hlt).trans d6)
    go_ret; exact ⟨rfl, hg1⟩
  · rw [e1]
    rw [e4] at A
    clear H e1 e4
    go_enter Tryz.func20, Tryz.ntmps20
    go_wp2_with (go_at_call 62; refine A.out.mono ?_; rintro e w1 ⟨rfl, hg1⟩)
    go_ret; exact ⟨rfl, hg1⟩
theorem stopped_ (w : World) (h : Nat) (O : Nat → Prop) (b qb : Nat → Nat) (S : Hs) (H : Hb w h O b qb S) (g : Int) : Calls Tryz.prog 21 #[.pointer (some ⟨h, 0, none⟩), .int .i64 g] w (Is (.bool (haltS S g)) w) := by
  have A := Lib.hid (linked_ w h O b qb S H g)
  rcases ptrL_cases S g with ⟨i, x, rfl, _, hi, hx, _, e1, e4⟩ | ⟨_, e1, e4⟩
  · rw [e1]
    rw [e4] at A
    obtain ⟨_, _, _, _, _, _, _, d7, _⟩ := H.cells hx
    have hlt := lt_of (H.grp hx)
    unfold toG at *
    clear H e1 e4 hx
    generalize x.halt = v at *
    go_enter Tryz.func21, Tryz.ntmps21
    go_wp2_with (go_at_call 62; refine A.out.mono ?_; rintro e w1 ⟨rfl, hg1⟩; have d7' := (hg1.cell (p := ⟨b i, 7, none⟩) hlt).trans d7)
    go_ret; exact ⟨rfl, hg1⟩
  · rw [e1]
    rw [e4] at A
    clear H e1 e4
    go_enter Tryz.func21, Tryz.ntmps21
    go_wp2_with (go_at_call 62; refine A.out.mono ?_; rintro e w1 ⟨rfl, hg1⟩)
    go_ret; exact ⟨rfl, hg1⟩
/-! ### a group -/
theorem total_busy {st : St} (h : Sound st) : decide (0 < total st.es) = !st.es.isEmpty := by
  cases he : st.es with
  | nil => rfl
  | cons e l =>
    have h1 := h.each e (by rw [he]; simp)
    have h2 := (total_bd (es := l) fun x hx => by have := h.each x (by rw [he]; simp [hx]); omega).1
    have : 0 < total (e :: l) := by unfold total at *; simp only [List.map_cons, List.sum_cons]; omega
    simp [this]
theorem busy_ (w : World) (h : Nat) (O : Nat → Prop) (b qb : Nat → Nat) (S : Hs) (H : Hb w h O b qb S) (i : Nat) (x : Gp) (hx : S.g i = some x) (hs : Sound x.q) : Calls Tryz.prog 79 #[.pointer (some ⟨b i, 0, none⟩)] w (Is (.bool (busy x)) w) := by
  have M := Lib.hid (fun w1 (hg : Below w.heap.size w w1) => loads w1 (qb i) _ x.q (que_at (H.fresh hg) hx) hs.once (sound_few hs).1 (sound_few hs).2.1)
  have hg := Below.refl w.heap.size w
  obtain ⟨_, d1, _⟩ := H.cells hx
  unfold busy
  rw [← total_busy hs]
  generalize total x.q.es = v at *
  clear H hx hs
  by_cases hv : 0 < v
  · rw [decide_eq_true hv]
    have hv2 : decide (0 < v) = true := by simp [hv]
    go_enter Tryz.func79, Tryz.ntmps79
    go_wp2_with (go_at_call 61; refine (M.out _ hg).mono ?_; rintro e w2 ⟨rfl, hg2⟩)
    go_ret; exact ⟨by simp_all, hg2⟩
  · rw [decide_eq_false hv]
    have hv2 : decide (0 < v) = false := by simp [hv]
    go_enter Tryz.func79, Tryz.ntmps79
    go_wp2_with (go_at_call 61; refine (M.out _ hg).mono ?_; rintro e w2 ⟨rfl, hg2⟩)
    go_ret; exact ⟨by simp_all, hg2⟩
theorem should_ (w : World) (h : Nat) (O : Nat → Prop) (b qb : Nat → Nat) (S : Hs) (H : Hb w h O b qb S) (i : Nat) (x : Gp) (hx : S.g i = some x) (hs : Sound x.q) : Calls Tryz.prog 119 #[.pointer (some ⟨b i, 0, none⟩)] w (Is (.bool (should x)) w) := by
  have M := Lib.hid (busy_ w h O b qb S H i x hx hs)
  obtain ⟨_, _, _, _, _, _, _, d7, _⟩ := H.cells hx
  have hlt := lt_of (H.grp hx)
  unfold should
  clear H hx hs
  cases hb : busy x <;> cases hh : x.halt
  all_goals
    rw [hb] at M
    rw [hh] at d7
    go_enter Tryz.func119, Tryz.ntmps119
    go_wp2_with (go_at_call 79; refine M.out.mono ?_; rintro e w2 ⟨rfl, hg2⟩; have d7' := (hg2.cell (p := ⟨b i, 7, none⟩) hlt).trans d7)
    go_ret; exact ⟨by simp_all, hg2⟩
end Go.Proofs.YtnnjbonejbmgdaaGreat.Hr
