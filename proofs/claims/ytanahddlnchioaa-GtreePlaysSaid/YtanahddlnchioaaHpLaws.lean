/- A pool of handles that a caller holds. Conditions: none. -/
import Derived.Test.YtanahddlnchioaaHpPure
namespace Go.Proofs.Ytanahddlnchioaa.Hp
open Go.ChangeShapes Go.WideShapes Go.ChangeAt Go.RowKit
set_option linter.unusedVariables false
set_option linter.unusedSimpArgs false

def Yes (w : World) (e : Ending) (w' : World) : Prop := e = .returned (.bool true) ∧ Below w.heap.size w w'

/-- A sound pool that a caller holds, who came in at world w0; the blocks of O are held apart from it. -/
structure Hold (w0 : World) (O : Nat → Prop) (N : Int) (b : Nat) (st : St) (w : World) : Prop where
  pool : Pool w b O st
  inv : Inv N st
  lt : ∀ k, O k → k < w.heap.size
  sub : ∀ k, k < w0.heap.size → O k
  below : Below w0.heap.size w0 w
theorem Hold.local {w0 w : World} {O : Nat → Prop} {N : Int} {b : Nat} {st : St} (h : Hold w0 O N b st w) (o : Obj) : Hold w0 (With O w.heap.size) N b st (w.alloc o) :=
  ⟨h.pool.with.fresh ((Below.refl _ w).alloc (Nat.le_refl _) o), h.inv, with_lt h.lt o 0, fun k hk => .inl (h.sub k hk), h.below.alloc h.below.size o⟩
theorem Hold.fresh {w0 w w' : World} {O : Nat → Prop} {N : Int} {b : Nat} {st : St} (h : Hold w0 O N b st w) (hg : Below w.heap.size w w') : Hold w0 O N b st w' :=
  ⟨h.pool.fresh hg, h.inv, fun k hk => Nat.lt_of_lt_of_le (h.lt k hk) hg.size, h.sub, h.below.trans (hg.mono h.below.size)⟩
theorem Hold.less {w0 w : World} {O O' : Nat → Prop} {N : Int} {b : Nat} {st : St} (h : Hold w0 O N b st w) (hO : ∀ k, O' k → O k) (hs : ∀ k, k < w0.heap.size → O' k) : Hold w0 O' N b st w :=
  ⟨h.pool.other fun k hk => .inl (hO k hk), h.inv, fun k hk => h.lt k (hO k hk), hs, h.below⟩
theorem Hold.forget {w0 w : World} {O : Nat → Prop} {N : Int} {b k : Nat} {st : St} (h : Hold w0 (With O k) N b st w) (hs : ∀ k, k < w0.heap.size → O k) : Hold w0 O N b st w := h.less (fun _ => .inl) hs

def Res (v : Value) (w0 : World) (O : Nat → Prop) (N : Int) (b : Nat) (st : St) (w : World) (e : Ending) (w' : World) : Prop := e = .returned v ∧ Hold w0 O N b st w' ∧ Same O w w'

section
variable {w0 w : World} {O : Nat → Prop} {N : Int} {b : Nat} {st : St}
theorem Hold.did {v : Value} {st' : St} {M : Int} (h : Hold w0 O N b st w) (hI : Inv M st') {e : Ending} {w' : World} (d : Did v st' b O w e w') : Res v w0 O M b st' w e w' :=
  ⟨d.1, ⟨d.2.1, hI, fun k hk => Nat.lt_of_lt_of_le (h.lt k hk) d.2.2.size, h.sub, h.below.trans (d.2.2.mono h.sub).below⟩, d.2.2⟩
theorem Hold.read {v : Value} (h : Hold w0 O N b st w) {e : Ending} {w' : World} (d : e = .returned v ∧ Below w.heap.size w w') : Res v w0 O N b st w e w' :=
  ⟨d.1, h.fresh d.2, Same.of d.2 h.lt⟩
theorem Hold.put (h : Hold w0 O N b st w) (x y : Int) (hN : 0 ≤ N) : Calls Try.prog 21 #[.pointer (some ⟨b, 0, none⟩), .agg #[.int .i64 x, .int .i64 y]] w (Res (.tuple #[.agg #[.int .i64 (st.put x y).i, .int .i64 (st.put x y).g], .int .i64 (st.put x y).n]) w0 O N b (st.put x y).st w) :=
  (Hp.put x y h.pool h.inv h.lt).mono fun e w' d => h.did (h.inv.afterPut hN x y) d
theorem Hold.get (h : Hold w0 O N b st w) (i g : Int) : Calls Try.prog 51 #[.pointer (some ⟨b, 0, none⟩), .agg #[.int .i64 i, .int .i64 g]] w (Res (.tuple #[.agg #[.int .i64 (st.thing i g), .int .i64 (st.tgen i g)], .int .i64 (st.err i g)]) w0 O N b st w) :=
  (Hp.get w b O st i g h.pool h.inv.l1).mono fun e w' d => h.read d
theorem Hold.set (h : Hold w0 O N b st w) (i g x y : Int) : Calls Try.prog 35 #[.pointer (some ⟨b, 0, none⟩), .agg #[.int .i64 i, .int .i64 g], .agg #[.int .i64 x, .int .i64 y]] w (Res (.int .i64 (st.err i g)) w0 O N b (st.set i g x y) w) :=
  (Hp.set w b O st i g x y h.pool h.inv.l1 h.lt).mono fun e w' d => h.did (h.inv.afterSet i g x y) d
theorem Hold.free (h : Hold w0 O N b st w) (i g : Int) (hN : N ≤ 1000000000) : Calls Try.prog 30 #[.pointer (some ⟨b, 0, none⟩), .agg #[.int .i64 i, .int .i64 g]] w (Res (.tuple #[.agg #[.int .i64 (st.thing i g), .int .i64 (st.tgen i g)], .int .i64 (st.err i g)]) w0 O (N + 1) b (st.free i g) w) :=
  (Hp.free i g h.pool h.inv hN h.lt).mono fun e w' d => h.did (h.inv.afterFree i g) d
theorem Hold.len (h : Hold w0 O N b st w) : Calls Try.prog 47 #[.pointer (some ⟨b, 0, none⟩)] w (Res (.int .i64 (cnt st.pl)) w0 O N b st w) :=
  (Hp.lens h.pool h.inv).mono fun e w' d => h.read d
end
/-- New, by a caller who came in at world w0. -/
theorem newHold (w0 w : World) (room : Int) (hb : Below w0.heap.size w0 w) (h1 : 1 ≤ room) (h2 : room ≤ 4096) :
    Calls Try.prog 20 #[.int .i64 room] w (Res (.tuple #[.pointer (some ⟨w.heap.size, 0, none⟩), .int .i64 0]) w0 (· < w.heap.size) 0 w.heap.size ⟨room, [], []⟩ w) :=
  (new w room h1 h2).mono fun e w' ⟨he, hp, hg⟩ => ⟨he, ⟨hp, Inv.new h1 h2, fun k hk => Nat.lt_of_lt_of_le hk hg.size, fun k hk => Nat.lt_of_lt_of_le hk hb.size, hb.trans (hg.mono hb.size)⟩, Same.of hg fun _ h => h⟩
theorem Same.two {w w' : World} {O : Nat → Prop} {x y : Value} {t : TypeId} (h : Same O (w.alloc (.cells #[x, y] t)) w') (hO : O w.heap.size) : w'.cell? ⟨w.heap.size, 0, none⟩ = some x ∧ w'.cell? ⟨w.heap.size, 1, none⟩ = some y := by
  have hb := (h.block _ hO).trans (heap_alloc_new w _)
  constructor <;> (rw [cell_of_row w' _ _ _ _ _ hb]; rfl)
theorem Same.cell {w w' : World} {O : Nat → Prop} (h : Same O w w') {B j : Nat} {v : Value} (hO : O B) (hc : w.cell? ⟨B, j, none⟩ = some v) : w'.cell? ⟨B, j, none⟩ = some v :=
  (World.cell?_of_block (h.block _ hO)).trans hc

theorem cell_fresh {w w' : World} {a : Addr} {v : Value} (h : w.cell? a = some v) (hg : Below w.heap.size w w') : w'.cell? a = some v := (hg.cell (World.block_lt_of_cell? w a h)).trans h

end Go.Proofs.Ytanahddlnchioaa.Hp
