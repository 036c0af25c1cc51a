/- Arguments of a law read on as they did, in whatever world is as it was below the heap's old size; slices and arrays of integers, opened. Conditions: none. -/
import Derived.Test.YtnnjbonejbmgdaaGreatRows
import Derived.WalkKit
import Derived.ProofKit
import Derived.OpenShut
import Derived.Below
import Derived.Carry
import Derived.ChangeOld
import Derived.Lib.SmallJoins
import Derived.SizedLaws
import Derived.IntWalk
import Derived.Handy
import Derived.WalkSmall
import Derived.LoopTactic
import Derived.Deep.LoopGhost
import Derived.Lib.Hide
import Derived.Laws.EntriesVeiled
import Derived.WalkMore
import Derived.Deep.QuietTactic
import Derived.BigQuiet
namespace Go.Proofs.YtnnjbonejbmgdaaGreat.Read
open Go.ChangeShapes Go.WideShapes Go.ChangeAt Go.RowKit
set_option linter.unusedVariables false
set_option linter.unusedSimpArgs false

theorem on {H : Type} {enc : TypeId × Value → H} {P : Program} (hl : laidOutB P = true) {W W' : World} (hb : Below W.heap.size W W') : ∀ {ts : List TypeId} {vs : List Value} {ds : List (DataW H)} {ps : List MemPlace},
    (ts.all fun t => P.readableRec t && decide (t < P.types.size)) = true → DataW.TrodAll enc P W 0 (fun _ => true) true ts vs ds ps → DataW.TrodAll enc P W' 0 (fun b => decide (b < W.heap.size)) true ts vs ds ps
  | [], vs, ds, ps, _, h => by
    obtain ⟨rfl, rfl, rfl⟩ := trodAll_nil h
    rfl
  | t :: ts, vs, ds, ps, hr, h => by
    have hlt := h.lt
    obtain ⟨v, vs', d, ds', p, q, rfl, rfl, rfl, hd, hrest⟩ := trodAll_cons h
    simp only [List.all_cons, Bool.and_eq_true, decide_eq_true_eq] at hr
    exact ⟨p, q, Below.trod hl hr.1.1 hr.1.2 hd hb (fun x hx => hlt x (List.mem_append_left _ hx)), on hl hb hr.2 hrest, rfl⟩

/-- What a law's end asks of a walk: it returned true, and below the heap's old size the world is as it was. -/
theorem post {H : Type} {enc : TypeId × Value → H} {P : Program} {f : Func} {s : ChangeSpec} {apart : Bool} {W W' : World} {args : Array Value} {ds : List (DataW H)} {ps : List MemPlace} (hl : laidOutB P = true)
    (hr : (f.params.toList.all fun t => P.readableRec t && decide (t < P.types.size)) = true) (hb : Below W.heap.size W W')
    (hA : DataW.TrodAll enc P W 0 (fun _ => true) true f.params.toList args.toList ds ps) (hW : DataW.Whole enc P f.params.toList s.vars apart W args.toList ds [] ps) (hv : s.vars = []) {B : TypeId} (ht : f.resultTypes = #[B]) (hB : P.underlying B = some .bool)
    (hfn : s.fn H (ds ++ []) = { results := [.lit (.bool true)], args := ds }) :
    s.post enc P f apart true false false W args (.bool true) W' := by
  refine ⟨ds, [], ps, [], ps, [], hW, ?_, ?_, ?_, hb.frame _, fun h => by cases h⟩
  · rw [hfn, ht]
    exact trodAll_cons_mk (shut_bool hB _) trodAll_mk0
  · rw [hfn]
    exact on hl hb hr hA
  · rw [hfn, hv]
    rfl

/-- A slice of integers: its cells, and that each number is one of its kind. -/
theorem ints {H : Type} {enc : TypeId × Value → H} {P : Program} {W : World} {base : Nat} {t e : TypeId} {k : IntKind} {v : Value} {d : DataW H} {ps : List MemPlace} {r : Reach} (ht : P.underlying t = some (.slice e)) (he : P.underlying e = some (.int k)) (hc : P.cellsOf e = 1)
    (hv : Value.okWide P W r base t v) (h : DataW.Trod enc P W 0 (fun _ => true) true t v d ps) :
    ∃ (a : Option Addr) (len cap : Nat) (zs : List Int), v = .slice a len cap ∧ len ≤ 9223372036854775807 ∧ len ≤ zs.length ∧ (∀ n ∈ zs, (Lit.int k n).wf = true) ∧
      ∀ j, j < len → ∃ b off, a = some ⟨b, off, none⟩ ∧ b < W.heap.size ∧ W.cell? ⟨b, off + j, none⟩ = some (.int k (zs[j]?.getD 0)) := by
  obtain ⟨a0, len, cap, rfl⟩ := okWide_slice ht hv
  obtain ⟨fuel, hf⟩ := h
  rcases open_ints ht he hc hf with ⟨hcs, hx⟩ | ⟨a, len', cap', zs, hcs, _, hl, hm, hz, hx, hcell, hwz⟩
  · simp [Value.cells] at hcs
    obtain ⟨rfl, rfl, rfl⟩ := hcs
    exact ⟨none, 0, 0, [], rfl, by omega, Nat.le_refl _, by simp, by intro j hj; omega⟩
  · simp [Value.cells] at hcs
    obtain ⟨rfl, rfl, rfl⟩ := hcs
    simp only [if_true] at hz
    refine ⟨some a, len, cap, zs, rfl, by unfold maxLen at hm; omega, by omega, hwz, fun j hj => ?_⟩
    obtain ⟨b, off, rfl, hc'⟩ := ints_at hcell (by omega)
    have := hc' j (by omega)
    refine ⟨b, off, rfl, ?_, by rw [this]; simp [List.getD]⟩
    simpa using World.block_lt_of_cell? _ _ this

/-- An array of integers. -/
theorem array {H : Type} {enc : TypeId × Value → H} {P : Program} {W : World} {base n : Nat} {t e : TypeId} {k : IntKind} {v : Value} {d : DataW H} {ps : List MemPlace} {r : Reach} (ht : P.underlying t = some (.array n e)) (he : P.underlying e = some (.int k)) (hc : P.cellsOf e = 1) (hn : P.cellsOf t = n)
    (hv : Value.okWide P W r base t v) (h : DataW.Trod enc P W 0 (fun _ => true) true t v d ps) :
    ∃ zs : List Int, zs.length = n ∧ v = .agg ⟨zs.map (Value.int k)⟩ ∧ ∀ z ∈ zs, (Lit.int k z).wf = true := by
  obtain ⟨cs, rfl, hsz, _⟩ : ∃ cs, v = .agg cs ∧ cs.size = P.cellsOf t ∧ Row.okWide P W r base t cs := by
    simpa [Value.okWide, ht] using hv
  obtain ⟨fuel, hf⟩ := h
  obtain ⟨xs, m, _, _, hlen, hxs, hel⟩ := DataW.trod_array ht hf
  obtain ⟨l⟩ := cs
  simp only [Value.cells] at hlen hel
  have each : ∀ i, (hi : i < l.length) → ∃ z, l[i]? = some (.int k z) ∧ (Lit.int k z).wf = true := by
    intro i hi
    have h1 := hel i (by rw [← hn, ← hlen]; simpa using hi)
    rw [hc, Nat.mul_one] at h1
    have h2 : (List.drop i l).take 1 = [l[i]] := by
      rw [List.drop_eq_getElem_cons hi]; rfl
    rw [show (List.drop i l).take 1 = [l[i]] from h2] at h1
    obtain ⟨y, hy⟩ : ∃ y, xs[i]? = some y := by
      rw [List.getElem?_eq_getElem (show i < xs.length by rw [hxs, ← hn, ← hlen]; simpa using hi)]; exact ⟨_, rfl⟩
    rw [hy] at h1
    obtain ⟨z, e1, _, w1⟩ := DataW.trod_int he h1
    simp at e1
    exact ⟨z, by rw [List.getElem?_eq_getElem hi, e1], w1⟩
  clear hel hf hv hlen
  have key : ∀ l : List Value, (∀ i, (hi : i < l.length) → ∃ z, l[i]? = some (.int k z) ∧ (Lit.int k z).wf = true) → ∃ zs : List Int, zs.length = l.length ∧ l = zs.map (Value.int k) ∧ ∀ z ∈ zs, (Lit.int k z).wf = true := by
    intro l
    induction l with
    | nil => intro _; exact ⟨[], rfl, rfl, by simp⟩
    | cons a l ih =>
      intro h
      obtain ⟨z, hz, wz⟩ := h 0 (by simp)
      obtain ⟨zs, h1, h2, h3⟩ := ih (fun i hi => by have := h (i + 1) (by simpa using hi); simpa using this)
      simp at hz
      refine ⟨z :: zs, by simp [h1], by rw [List.map_cons, hz, h2], ?_⟩
      intro y hy
      rcases List.mem_cons.1 hy with rfl | hy
      · exact wz
      · exact h3 y hy
  obtain ⟨zs, h1, h2, h3⟩ := key l each
  exact ⟨zs, by rw [h1]; simpa [hn] using hsz, by rw [h2], h3⟩

/-- A struct of two integers. -/
theorem pair {H : Type} {enc : TypeId × Value → H} {P : Program} {W : World} {base : Nat} {t : TypeId} {f0 f1 : Field} {k0 k1 : IntKind} {v : Value} {d : DataW H} {ps : List MemPlace} {r : Reach} (ht : P.underlying t = some (.struct #[f0, f1])) (hone : Go.Deep.oneCellFields P #[f0, f1] = true) (hC : P.cellsOf t = 2)
    (h0 : P.underlying f0.type = some (.int k0)) (h1 : P.underlying f1.type = some (.int k1)) (hv : Value.okWide P W r base t v) (h : DataW.Trod enc P W 0 (fun _ => true) true t v d ps) :
    ∃ a b : Int, v = .agg #[.int k0 a, .int k1 b] ∧ (Lit.int k0 a).wf = true ∧ (Lit.int k1 b).wf = true := by
  obtain ⟨v0, v1, y0, y1, n, rfl, _, _, t0, t1⟩ := Go.Joins.open_agg2 ht hone hC hv h
  obtain ⟨a, e0, _, w0⟩ := DataW.trod_int h0 t0
  obtain ⟨b, e1, _, w1⟩ := DataW.trod_int h1 t1
  simp at e0 e1
  subst e0 e1
  exact ⟨a, b, rfl, w0, w1⟩

/-- A slice of integers that is nil has no room. -/
theorem nilcap {H : Type} {enc : TypeId × Value → H} {P : Program} {W : World} {t e : TypeId} {k : IntKind} {a : Option Addr} {len cap : Nat} {d : DataW H} {ps : List MemPlace} (ht : P.underlying t = some (.slice e)) (he : P.underlying e = some (.int k)) (hc : P.cellsOf e = 1)
    (h : DataW.Trod enc P W 0 (fun _ => true) true t (.slice a len cap) d ps) : a = none → len = 0 ∧ cap = 0 := by
  intro ha
  obtain ⟨fuel, hf⟩ := h
  rcases open_ints ht he hc hf with ⟨hcs, hx⟩ | ⟨a', len', cap', zs, hcs, _⟩
  · simp [Value.cells] at hcs
    exact hcs.2
  · simp [Value.cells] at hcs
    rw [ha] at hcs
    exact absurd hcs.1 (by simp)
/-- A slice of integers has room for what it holds. -/
theorem lecap {H : Type} {enc : TypeId × Value → H} {P : Program} {W : World} {t e : TypeId} {k : IntKind} {a : Option Addr} {len cap : Nat} {d : DataW H} {ps : List MemPlace} (ht : P.underlying t = some (.slice e)) (he : P.underlying e = some (.int k)) (hc : P.cellsOf e = 1)
    (h : DataW.Trod enc P W 0 (fun _ => true) true t (.slice a len cap) d ps) : len ≤ cap := by
  obtain ⟨fuel, hf⟩ := h
  rcases open_ints ht he hc hf with ⟨hcs, hx⟩ | ⟨a', len', cap', zs, hcs, _, hl, _⟩
  · simp [Value.cells] at hcs
    omega
  · simp [Value.cells] at hcs
    obtain ⟨_, rfl, rfl⟩ := hcs
    exact hl
/-- How many bytes a slice of integers that came in takes at most. -/
theorem room {H : Type} {enc : TypeId × Value → H} {P : Program} {W : World} {t e : TypeId} {k : IntKind} {a : Option Addr} {len cap B : Nat} {d : DataW H} {ps : List MemPlace} (ht : P.underlying t = some (.slice e)) (he : P.underlying e = some (.int k)) (hc : P.cellsOf e = 1) (hB : P.bytesOf e = B)
    (h : DataW.Trod enc P W 0 (fun _ => true) true t (.slice a len cap) d ps) {ts : List TypeId} {ds : List (DataW H)} {j : Nat} (hsz : (DataW.weightsEach P ts ds).all (· ≤ reachBytes) = true) (hj : ts[j]? = some t) (hd : ds[j]? = some d) : len * B ≤ 140737488351232 := by
  obtain ⟨fuel, hf⟩ := h
  rcases open_ints ht he hc hf with ⟨hcs, hx⟩ | ⟨a', len', cap', zs, hcs, _, hl, hm, hz, hx, _⟩
  · simp [Value.cells] at hcs
    obtain ⟨_, rfl, _⟩ := hcs
    omega
  · simp [Value.cells] at hcs
    obtain ⟨_, rfl, rfl⟩ := hcs
    simp only [if_true] at hz
    cases hx
    have := sized_slice hsz hj hd ht
    rw [hB] at this
    simp only [lits, List.length_map, List.length_take, List.length_drop, hz, reachBytes] at this
    refine Nat.le_trans (Nat.mul_le_mul_right B ?_) this
    omega
end Go.Proofs.YtnnjbonejbmgdaaGreat.Read

/- A struct of four integers, opened. Conditions: none. -/
namespace Go.Proofs.YtnnjbonejbmgdaaGreat.Read
open Go.ChangeShapes Go.WideShapes Go.ChangeAt Go.RowKit
set_option linter.unusedVariables false

theorem quad {H : Type} {enc : TypeId × Value → H} {P : Program} {W : World} {base : Nat} {t : TypeId} {f0 f1 f2 f3 : Field} {k0 k1 k2 k3 : IntKind} {v : Value} {d : DataW H} {ps : List MemPlace} {r : Reach} (ht : P.underlying t = some (.struct #[f0, f1, f2, f3])) (hone : Go.Deep.oneCellFields P #[f0, f1, f2, f3] = true) (hC : P.cellsOf t = 4)
    (h0 : P.underlying f0.type = some (.int k0)) (h1 : P.underlying f1.type = some (.int k1)) (h2 : P.underlying f2.type = some (.int k2)) (h3 : P.underlying f3.type = some (.int k3)) (hv : Value.okWide P W r base t v) (h : DataW.Trod enc P W 0 (fun _ => true) true t v d ps) :
    ∃ a b c e : Int, v = .agg #[.int k0 a, .int k1 b, .int k2 c, .int k3 e] ∧ (Lit.int k0 a).wf = true ∧ (Lit.int k1 b).wf = true ∧ (Lit.int k2 c).wf = true ∧ (Lit.int k3 e).wf = true := by
  obtain ⟨v0, v1, v2, v3, y0, y1, y2, y3, n, rfl, _, _, t0, t1, t2, t3⟩ := Go.Joins.open_agg4 ht hone hC hv h
  obtain ⟨a, e0, _, w0⟩ := DataW.trod_int h0 t0
  obtain ⟨b, e1, _, w1⟩ := DataW.trod_int h1 t1
  obtain ⟨c, e2, _, w2⟩ := DataW.trod_int h2 t2
  obtain ⟨e, e3, _, w3⟩ := DataW.trod_int h3 t3
  simp at e0 e1 e2 e3
  subst e0 e1 e2 e3
  exact ⟨a, b, c, e, rfl, w0, w1, w2, w3⟩
end Go.Proofs.YtnnjbonejbmgdaaGreat.Read

/- Plain whole numbers of 64 bits: sums, differences, products and what is held of them, and facts about them; nothing of a program. Conditions: as each fact states them. -/
namespace Go.Proofs.YtnnjbonejbmgdaaGreat.Fix
set_option linter.unusedVariables false

def I64 (n : Int) : Prop := -9223372036854775808 ≤ n ∧ n ≤ 9223372036854775807
def only (n : Int) : Int := if -9223372036854775808 ≤ n ∧ n ≤ 9223372036854775807 then n else 0
def fits (n : Int) : Bool := decide (-9223372036854775808 ≤ n ∧ n ≤ 9223372036854775807)
def ends (n : Int) : Int := if n < -9223372036854775808 then -9223372036854775808 else if 9223372036854775807 < n then 9223372036854775807 else n
def hold (n low high : Int) : Int := if n < low then low else if high < n then high else n

theorem only_in {n : Int} (h : I64 n) : only n = n := if_pos h
theorem only_out {n : Int} (h : ¬ I64 n) : only n = 0 := if_neg h
theorem fits_in {n : Int} (h : I64 n) : fits n = true := decide_eq_true h
theorem fits_out {n : Int} (h : ¬ I64 n) : fits n = false := decide_eq_false h
theorem i64_only (n : Int) : I64 (only n) := by
  unfold only I64; split <;> omega
theorem i64_ends (n : Int) : I64 (ends n) := by
  unfold ends I64; split <;> (try split) <;> omega
theorem i64_hold {n low high : Int} (a : I64 n) (b : I64 low) (c : I64 high) : I64 (hold n low high) := by
  unfold hold; split <;> (try split) <;> assumption

theorem tdiv_near (p b : Int) (hb : b ≠ 0) : p - b * p.tdiv b < (b.natAbs : Int) ∧ -(b.natAbs : Int) < p - b * p.tdiv b := by
  have e := Int.tmod_add_mul_tdiv p b
  have e1 := Int.natAbs_tmod p b
  have e2 : p.natAbs % b.natAbs < b.natAbs := Nat.mod_lt _ (by omega)
  omega

/-- A product that has run over, divided again, is not what was multiplied. -/
theorem mul_tells (a b k : Int) (hb : I64 b) (h0 : b ≠ 0) (hk : k ≠ 0) : (a * b + k * 18446744073709551616).tdiv b ≠ a := by
  intro h
  have n := tdiv_near (a * b + k * 18446744073709551616) b h0
  rw [h, Int.mul_comm b a] at n
  unfold I64 at hb
  omega

theorem tdiv_i64 (p b : Int) (hp : I64 p) (hb : b ≠ -1) : I64 (p.tdiv b) := by
  unfold I64 at *
  have e : (p.tdiv b).natAbs = p.natAbs / b.natAbs := Int.natAbs_tdiv p b
  by_cases h0 : b = 0
  · subst h0; simp
  by_cases h1 : b = 1
  · subst h1; simpa using hp
  have l : p.natAbs / b.natAbs ≤ p.natAbs / 2 := Nat.div_le_div_left (by omega) (by omega)
  rw [← e] at l
  omega

theorem size_mul (a b : Int) : ((a * b).natAbs : Int) = a.natAbs * b.natAbs := by
  rw [Int.natAbs_mul]; rfl
end Go.Proofs.YtnnjbonejbmgdaaGreat.Fix

/- What the calls Add, Sub, Hold, Sat and Less of package fix return: at all numbers of 64 bits; below the heap's old size the world is as it was. Conditions: each argument is a number of its kind. -/
namespace Go.Proofs.YtnnjbonejbmgdaaGreat.Fix
open Go.ChangeShapes Go.WideShapes Go.ChangeAt Go.RowKit
set_option linter.unusedVariables false

/-- A world as it was; one with new blocks at most. -/
def Two (n : Int) (is : Bool) (w : World) (e : Ending) (w' : World) : Prop := e = .returned (.tuple #[.int .i64 n, .bool is]) ∧ w = w'
def One (n : Int) (w : World) (e : Ending) (w' : World) : Prop := e = .returned (.int .i64 n) ∧ w = w'
def OneB (n : Int) (w : World) (e : Ending) (w' : World) : Prop := e = .returned (.int .i64 n) ∧ Below w.heap.size w w'

theorem two_of {a b : Int} {is : Bool} {w : World} (h : a = b) : Two b is w (.returned (.tuple #[.int .i64 a, .bool is])) w := by subst h; exact ⟨rfl, rfl⟩
theorem oneB_of {a b : Int} {w w' : World} (h : a = b) (g : Below w.heap.size w w') : OneB b w (.returned (.int .i64 a)) w' := by subst h; exact ⟨rfl, g⟩
theorem one_of {a b : Int} {w : World} (h : a = b) : One b w (.returned (.int .i64 a)) w := by subst h; exact ⟨rfl, rfl⟩

theorem add (a b : Int) (w : World) (ha : I64 a) (hb : I64 b) :
    Calls Tryz.prog 113 #[.int .i64 a, .int .i64 b] w (Two (only (a + b)) (fits (a + b)) w) := by
  by_cases hs : I64 (a + b)
  · rw [only_in hs, fits_in hs]
    unfold I64 at *
    by_cases h1 : a < 0 <;> by_cases h2 : b < 0 <;> by_cases h3 : a + b < 0
    all_goals
      go_enter Tryz.func113, Tryz.ntmps113
      go_wp2
      first | (go_ret2; exact ⟨rfl, rfl⟩) | (exfalso; omega)
  · rw [only_out hs, fits_out hs]
    unfold I64 at *
    by_cases h1 : a < 0
    · have h2 : b < 0 := by omega
      have h3 : ¬ wrap64 (a + b) < 0 := by unfold wrap64; omega
      go_enter Tryz.func113, Tryz.ntmps113
      go_wp2
      go_ret2; exact ⟨rfl, rfl⟩
    · have h2 : ¬ b < 0 := by omega
      have h3 : wrap64 (a + b) < 0 := by unfold wrap64; omega
      go_enter Tryz.func113, Tryz.ntmps113
      go_wp2
      go_ret2; exact ⟨rfl, rfl⟩

theorem sub (a b : Int) (w : World) (ha : I64 a) (hb : I64 b) :
    Calls Tryz.prog 177 #[.int .i64 a, .int .i64 b] w (Two (only (a - b)) (fits (a - b)) w) := by
  by_cases hs : I64 (a - b)
  · rw [only_in hs, fits_in hs]
    unfold I64 at *
    by_cases h1 : a < 0 <;> by_cases h2 : b < 0 <;> by_cases h3 : a - b < 0
    all_goals
      go_enter Tryz.func177, Tryz.ntmps177
      go_wp2
      first | (go_ret2; exact ⟨rfl, rfl⟩) | (exfalso; omega)
  · rw [only_out hs, fits_out hs]
    unfold I64 at *
    by_cases h1 : a < 0
    · have h2 : ¬ b < 0 := by omega
      have h3 : ¬ wrap64 (a - b) < 0 := by unfold wrap64; omega
      go_enter Tryz.func177, Tryz.ntmps177
      go_wp2
      go_ret2; exact ⟨rfl, rfl⟩
    · have h2 : b < 0 := by omega
      have h3 : wrap64 (a - b) < 0 := by unfold wrap64; omega
      go_enter Tryz.func177, Tryz.ntmps177
      go_wp2
      go_ret2; exact ⟨rfl, rfl⟩

theorem holds (n low high : Int) (w : World) :
    Calls Tryz.prog 160 #[.int .i64 n, .int .i64 low, .int .i64 high] w (One (hold n low high) w) := by
  by_cases h1 : n < low
  · go_enter Tryz.func160, Tryz.ntmps160
    go_wp2
    go_ret; exact one_of (by unfold hold; split <;> omega)
  · by_cases h2 : high < n
    all_goals
      go_enter Tryz.func160, Tryz.ntmps160
      go_wp2
      go_ret; exact one_of (by unfold hold; split <;> (try split) <;> omega)

theorem sat (a b : Int) (w : World) (ha : I64 a) (hb : I64 b) :
    Calls Tryz.prog 114 #[.int .i64 a, .int .i64 b] w (OneB (ends (a + b)) w) := by
  by_cases hs : I64 (a + b)
  · have e1 := only_in hs
    have e2 := fits_in hs
    go_enter Tryz.func114, Tryz.ntmps114
    go_wp2_with (first | (go_at_call 113; refine (add a b _ ha hb).mono ?_; rintro e w' ⟨rfl, rfl⟩) | go_in)
    go_ret; exact oneB_of (by unfold ends; unfold I64 at hs; split <;> (try split) <;> omega) (by go_grown)
  · have e1 := only_out hs
    have e2 := fits_out hs
    by_cases h1 : a < 0
    all_goals
      go_enter Tryz.func114, Tryz.ntmps114
      go_wp2_with (first | (go_at_call 113; refine (add a b _ ha hb).mono ?_; rintro e w' ⟨rfl, rfl⟩) | go_in)
      go_ret; exact oneB_of (by unfold ends; unfold I64 at *; split <;> (try split) <;> omega) (by go_grown)
theorem less (a b : Int) (w : World) (ha : I64 a) (hb : I64 b) :
    Calls Tryz.prog 176 #[.int .i64 a, .int .i64 b] w (OneB (ends (a - b)) w) := by
  by_cases hs : I64 (a - b)
  · have e1 := only_in hs
    have e2 := fits_in hs
    go_enter Tryz.func176, Tryz.ntmps176
    go_wp2_with (first | (go_at_call 177; refine (sub a b _ ha hb).mono ?_; rintro e w' ⟨rfl, rfl⟩) | go_in)
    go_ret; exact oneB_of (by unfold ends; unfold I64 at hs; split <;> (try split) <;> omega) (by go_grown)
  · have e1 := only_out hs
    have e2 := fits_out hs
    by_cases h1 : a < 0
    all_goals
      go_enter Tryz.func176, Tryz.ntmps176
      go_wp2_with (first | (go_at_call 177; refine (sub a b _ ha hb).mono ?_; rintro e w' ⟨rfl, rfl⟩) | go_in)
      go_ret; exact oneB_of (by unfold ends; unfold I64 at *; split <;> (try split) <;> omega) (by go_grown)
theorem fresh_trans {a b c : World} (h : Below a.heap.size a b) (k : Below b.heap.size b c) : Below a.heap.size a c := h.trans (k.mono h.size)
end Go.Proofs.YtnnjbonejbmgdaaGreat.Fix

/- Plain whole numbers: where a vruntime stands on another queue, and the least one of some; nothing of a program. Conditions: as each fact states them. -/
namespace Go.Proofs.YtnnjbonejbmgdaaGreat.Renorm
open Fix
set_option linter.unusedVariables false

def off (v m : Int) : Int := ends (v - m)
def offO (v m : Int) : Bool := !fits (v - m)
def on (o m : Int) : Int := ends (o + m)
def onO (o m : Int) : Bool := !fits (o + m)
def move (v f t : Int) : Int := on (off v f) t
def moveO (v f t : Int) : Bool := offO v f || onO (off v f) t
def wake (o m c : Int) : Int := max o (ends (m - hold c 0 1099511627776))
/-- The least one of z 0 to z k. -/
def lst (z : Nat → Int) : Nat → Int
  | 0 => z 0
  | k + 1 => min (lst z k) (z (k + 1))
/-- A least vruntime, made higher by z 0 to z (n - 1). -/
def hi (m : Int) (z : Nat → Int) (n : Nat) : Int := if n = 0 then m else max m (lst z (n - 1))

theorem lst_le (z : Nat → Int) : ∀ {k j : Nat}, j ≤ k → lst z k ≤ z j
  | 0, j, h => by obtain rfl : j = 0 := by omega
                  exact Int.le_refl _
  | k + 1, j, h => by
    unfold lst
    by_cases e : j = k + 1
    · subst e; omega
    · have := lst_le z (show j ≤ k by omega); omega
theorem lst_same {z y : Nat → Int} : ∀ {k : Nat}, (∀ j, j ≤ k → z j = y j) → lst z k = lst y k
  | 0, h => h 0 (by omega)
  | k + 1, h => by unfold lst; rw [lst_same fun j hj => h j (by omega), h (k + 1) (by omega)]
theorem lst_i64 {z : Nat → Int} (h : ∀ j, I64 (z j)) : ∀ k, I64 (lst z k)
  | 0 => h 0
  | k + 1 => by have a := lst_i64 h k; have b := h (k + 1); rw [lst]; unfold I64 at *; omega
theorem hi_none (m : Int) (z : Nat → Int) : hi m z 0 = m := if_pos rfl
theorem hi_some (m : Int) (z : Nat → Int) (k : Nat) : hi m z (k + 1) = max m (lst z k) := if_neg (by omega)
theorem hi_ge (m : Int) (z : Nat → Int) (n : Nat) : m ≤ hi m z n := by unfold hi; split <;> omega
theorem hi_le (m : Int) (z : Nat → Int) {n j : Nat} (h : j < n) : ¬ (m < hi m z n ∧ z j < hi m z n) := by
  obtain ⟨k, rfl⟩ : ∃ k, n = k + 1 := ⟨n - 1, by omega⟩
  have := lst_le z (show j ≤ k by omega)
  rw [hi_some]; omega
theorem hi_again (m : Int) (z : Nat → Int) (n : Nat) : hi (hi m z n) z n = hi m z n := by
  unfold hi; split <;> omega
/-- One more behind all. -/
def more (z : Nat → Int) (n : Nat) (v : Int) (j : Nat) : Int := if j < n then z j else v
theorem hi_more (m : Int) (z : Nat → Int) (n : Nat) (v : Int) : hi m (more z n v) (n + 1) ≤ hi m z n ∨ n = 0 := by
  match n with
  | 0 => exact .inr rfl
  | k + 1 =>
    rw [hi_some, hi_some, lst, lst_same (y := z) fun j hj => by unfold more; rw [if_pos (by omega)]]
    omega
theorem hi_one (m : Int) (z : Nat → Int) (v : Int) : hi m (more z 0 v) 1 = max m v := by
  rw [hi_some]; rfl
theorem hi_i64 {m : Int} {z : Nat → Int} (hm : I64 m) (h : ∀ j, I64 (z j)) (n : Nat) : I64 (hi m z n) := by
  have := lst_i64 h (n - 1)
  unfold hi; unfold I64 at *; split <;> omega
end Go.Proofs.YtnnjbonejbmgdaaGreat.Renorm

/- What each call of package renorm returns. Conditions: each argument is a number of its kind. -/
namespace Go.Proofs.YtnnjbonejbmgdaaGreat.Renorm
open Go.ChangeShapes Go.WideShapes Go.ChangeAt Go.RowKit Fix
set_option linter.unusedVariables false
set_option maxRecDepth 100000
set_option linter.unusedSimpArgs false

def Gives (v : Value) (w : World) (e : Ending) (w' : World) : Prop := e = .returned v ∧ Below w.heap.size w w'
def TwoB (n : Int) (is : Bool) (w : World) (e : Ending) (w' : World) : Prop := e = .returned (.tuple #[.int .i64 n, .bool is]) ∧ Below w.heap.size w w'
theorem twoB_of {a b : Int} {is was : Bool} {w w' : World} (h : a = b) (k : is = was) (g : Below w.heap.size w w') : TwoB b was w (.returned (.tuple #[.int .i64 a, .bool is])) w' := by subst h k; exact ⟨rfl, g⟩

theorem less (w : World) : Calls Tryz.prog 154 #[] w (Gives (.agg #[.func (.func 176) #[] #[], .func (.func 177) #[] #[]]) w) := by
  go_enter Tryz.func154, Tryz.ntmps154
  go_wp2
  refine bodyPost_ret (v := .agg #[.func (.func 176) #[] #[], .func (.func 177) #[] #[]]) (by simp [results, Tryz.results154, go_sem]) rfl ?_
  exact ⟨rfl, by go_grown⟩
theorem less_held : ∀ w, Sem.run Tryz.prog (Instr.field 191 (.agg #[.func (.func 176) #[] #[], .func (.func 177) #[] #[]]) 0) w = .ok (.func (.func 176) #[] #[]) w := fun w => rfl
theorem wakes (o m c : Int) (w : World) (hm : I64 m) (hc : I64 c) :
    Calls Tryz.prog 153 #[.int .i64 o, .int .i64 m, .int .i64 c] w (OneB (wake o m c) w) := by
  have m1 := Lib.hid (fun w => Fix.holds c 0 1099511627776 w)
  have m2 := Lib.hid (fun w => Fix.less m (hold c 0 1099511627776) w hm (i64_hold hc (by unfold I64; omega) (by unfold I64; omega)))
  unfold wake
  generalize ends (m - hold c 0 1099511627776) = x at *
  generalize hold c 0 1099511627776 = y at *
  have hg := Below.refl w.heap.size w
  have hf := less_held
  go_enter Tryz.func153, Tryz.ntmps153
  go_wp2_with (first
    | (go_at_call 154; refine (less _).mono ?_; rintro e w1 ⟨rfl, hg1⟩; replace hg := fresh_trans hg hg1; clear hg1)
    | (go_at_call 160; refine (m1.out _).mono ?_; rintro e w1 ⟨rfl, rfl⟩)
    | (go_at_call 176; refine (m2.out _).mono ?_; rintro e w1 ⟨rfl, hg1⟩; replace hg := fresh_trans hg hg1; clear hg1))
  all_goals (go_ret; exact oneB_of (by omega) hg)

/-- A slice of numbers of 64 bits, z 0 to z (len - 1). -/
def Lies (v : Option Addr) (len : Nat) (z : Nat → Int) (w : World) : Prop := ∀ j, j < len → ∃ b off, v = some ⟨b, off, none⟩ ∧ b < w.heap.size ∧ w.cell? ⟨b, off + j, none⟩ = some (.int .i64 (z j))
theorem Lies.fresh {v : Option Addr} {len : Nat} {z : Nat → Int} {w w' : World} (h : Lies v len z w) (hg : Below w.heap.size w w') : Lies v len z w' := by
  intro j hj
  obtain ⟨b, o, e, hb, hc⟩ := h j hj
  exact ⟨b, o, e, by have := hg.size; omega, (hg.cell hb).trans hc⟩
def MinI (len : Nat) (z : Nat → Int) (w : World) (t3 t4 : Value) (wr : World) : Prop := ∃ k : Nat, k < len ∧ t3 = .int .i64 (lst z k) ∧ t4 = .int .i64 ((k : Int) + 1) ∧ wr = w
theorem mins (v : Option Addr) (len cap : Nat) (z : Nat → Int) (w : World) (h0 : 0 < len) (hlen : len ≤ 9223372036854775807) (HC : Hid (Lies v len z w)) :
    Calls Tryz.prog 171 #[.slice v len cap] w (One (lst z (len - 1)) w) := by
  obtain ⟨b, o, rfl, hb, hc⟩ := HC.out 0 h0
  rw [Nat.add_zero] at hc
  have h1 : ¬ (len : Int) < 1 := by omega
  have h2 : (0 : Int) < len := by omega
  go_enter Tryz.func171, Tryz.ntmps171
  go_wp2
  go_loopw [3, 4] (fun t3 t4 wr => MinI len z w t3 t4 wr) (fun _ i _ => len - (intOf i).toNat)
  case atStart => exact ⟨0, h0, rfl, rfl, rfl⟩
  case round =>
    clear hc
    obtain ⟨k, hk, rfl, rfl, rfl⟩ := hrel
    by_cases hlt : k + 1 < len
    · obtain ⟨b', o', e, _, hc⟩ := HC.out (k + 1) hlt
      cases e
      have h3 : (k : Int) + 1 < len := by omega
      go_wp2
      go_roundw
      case rel => exact ⟨k + 1, hlt, by rw [lst]; congr 1; split <;> omega, by go_num, rfl⟩
      case measure => simp [intOf]; omega
    · have h3 : ¬ (k : Int) + 1 < len := by omega
      go_wp2
      go_ret
      exact one_of (by rw [show len - 1 = k by omega])
theorem highers (m : Int) (v : Option Addr) (len cap : Nat) (z : Nat → Int) (w : World) (hlen : len ≤ 9223372036854775807) (HC : Hid (Lies v len z w)) :
    Calls Tryz.prog 147 #[.int .i64 m, .slice v len cap] w (One (hi m z len) w) := by
  by_cases h0 : len = 0
  · subst h0
    rw [hi_none]
    go_enter Tryz.func147, Tryz.ntmps147
    go_wp2
    go_ret; exact ⟨rfl, rfl⟩
  · have h1 : ((len : Int) == 0) = false := by simpa using h0
    have m1 := Lib.hid (mins v len cap z w (by omega) hlen HC)
    rw [show hi m z len = max m (lst z (len - 1)) from if_neg h0]
    generalize lst z (len - 1) = x at *
    go_enter Tryz.func147, Tryz.ntmps147
    go_wp2_with (go_at_call 171; refine m1.out.mono ?_; rintro e w1 ⟨rfl, rfl⟩)
    all_goals (go_ret; exact one_of (by omega))
end Go.Proofs.YtnnjbonejbmgdaaGreat.Renorm

/- The document's numbers for package vrun: how far a vruntime goes on, what is left over, what is needed. Conditions: none. -/
namespace Go.Proofs.YtnnjbonejbmgdaaGreat.Vrun
set_option linter.unusedVariables false

/-- The error of a charge; by how much a vruntime goes on; what is left over. -/
def cerr (x r t : Int) : Int := if x < 2 ∨ 262144 < x then 4 else if x ≤ r then 1 else if 1000000000 < t then 8 else 0
def cval (x r t : Int) : Int := if cerr x r t = 0 then (r + 1024 * t) / x else 0
def crem (x r t : Int) : Int := if cerr x r t = 0 then (r + 1024 * t) % x else 0
/-- The error of a need; how long it is. -/
def nerr (x r d : Int) : Int := if x < 2 ∨ 262144 < x then 4 else if x ≤ r ∨ d < 0 ∨ 1099511627776 < d then 1 else 0
def nval (x r d : Int) : Int := if nerr x r d = 0 then (if d * x ≤ r then 0 else (d * x - r + 1023) / 1024) else 0

theorem cerr_in {x r t : Int} (h1 : 2 ≤ x) (h2 : x ≤ 262144) (h3 : r < x) (h4 : t ≤ 1000000000) : cerr x r t = 0 := by
  unfold cerr; rw [if_neg (by omega), if_neg (by omega), if_neg (by omega)]
theorem cval_in {x r t : Int} (h1 : 2 ≤ x) (h2 : x ≤ 262144) (h3 : r < x) (h4 : t ≤ 1000000000) : cval x r t = (r + 1024 * t) / x := by
  unfold cval; rw [if_pos (cerr_in h1 h2 h3 h4)]
theorem crem_in {x r t : Int} (h1 : 2 ≤ x) (h2 : x ≤ 262144) (h3 : r < x) (h4 : t ≤ 1000000000) : crem x r t = (r + 1024 * t) % x := by
  unfold crem; rw [if_pos (cerr_in h1 h2 h3 h4)]
theorem nerr_in {x r d : Int} (h1 : 2 ≤ x) (h2 : x ≤ 262144) (h3 : r < x) (h4 : 0 ≤ d) (h5 : d ≤ 1099511627776) : nerr x r d = 0 := by
  unfold nerr; rw [if_neg (by omega), if_neg (by omega)]
theorem nval_in {x r d : Int} (h1 : 2 ≤ x) (h2 : x ≤ 262144) (h3 : r < x) (h4 : 0 ≤ d) (h5 : d ≤ 1099511627776) : nval x r d = if d * x ≤ r then 0 else (d * x - r + 1023) / 1024 := by
  unfold nval; rw [if_pos (nerr_in h1 h2 h3 h4 h5)]
theorem prod_bd {x d : Int} (h1 : 2 ≤ x) (h2 : x ≤ 262144) (h4 : 0 ≤ d) (h5 : d ≤ 1099511627776) : 0 ≤ d * x ∧ d * x ≤ 288230376151711744 :=
  ⟨Int.mul_nonneg h4 (by omega), Int.le_trans (Int.mul_le_mul h5 h2 (by omega) (by omega)) (by decide)⟩
theorem quot_bd {x r t : Int} (h1 : 2 ≤ x) (h3 : r < x) (hr : 0 ≤ r) (h2 : x ≤ 262144) (ht : 0 ≤ t) (h4 : t ≤ 1000000000) :
    0 ≤ (r + 1024 * t) / x ∧ (r + 1024 * t) / x ≤ 1099511627776 ∧ 0 ≤ (r + 1024 * t) % x ∧ (r + 1024 * t) % x < x := by
  refine ⟨Int.ediv_nonneg (by omega) (by omega), ?_, Int.emod_nonneg _ (by omega), Int.emod_lt_of_pos _ (by omega)⟩
  exact Int.le_trans (Int.ediv_le_self x (by omega)) (by omega)
end Go.Proofs.YtnnjbonejbmgdaaGreat.Vrun

/- What each call of package vrun, and of the document's own answers for it, returns. Conditions: each argument is a number of its kind. -/
namespace Go.Proofs.YtnnjbonejbmgdaaGreat.Vrun
open Go.ChangeShapes Go.WideShapes Go.ChangeAt Go.RowKit
set_option linter.unusedVariables false

def IsBool (b : Bool) (w : World) (e : Ending) (w' : World) : Prop := e = .returned (.bool b) ∧ w = w'
def Chg (d r n : Int) (w : World) (e : Ending) (w' : World) : Prop := e = .returned (.tuple #[.int .i64 d, .int .u64 r, .int .i64 n]) ∧ Below w.heap.size w w'
def Ned (d n : Int) (w : World) (e : Ending) (w' : World) : Prop := e = .returned (.tuple #[.int .u64 d, .int .i64 n]) ∧ Below w.heap.size w w'
theorem chg_of {a b c d r n : Int} {w w' : World} (h1 : a = d) (h2 : b = r) (h3 : c = n) (g : Below w.heap.size w w') : Chg d r n w (.returned (.tuple #[.int .i64 a, .int .u64 b, .int .i64 c])) w' := by subst h1 h2 h3; exact ⟨rfl, g⟩
theorem ned_of {a b d n : Int} {w w' : World} (h1 : a = d) (h2 : b = n) (g : Below w.heap.size w w') : Ned d n w (.returned (.tuple #[.int .u64 a, .int .i64 b])) w' := by subst h1 h2; exact ⟨rfl, g⟩
theorem fresh_trans {a b c : World} (h : Below a.heap.size a b) (k : Below b.heap.size b c) : Below a.heap.size a c := h.trans (k.mono h.size)
theorem drawn (w : World) (n : Nat) : Below w.heap.size w (w.drewN n) := ⟨rfl, rfl, rfl, Nat.le_refl _, fun _ _ => rfl⟩

theorem mayBe_yes (x : Int) (w : World) (h1 : 2 ≤ x) (h2 : x ≤ 262144) : Calls Tryz.prog 145 #[.int .u64 x] w (IsBool true w) := by
  go_enter Tryz.func145, Tryz.ntmps145
  go_wp2
  go_ret; exact ⟨by simp, rfl⟩
theorem mayBe_no (x : Int) (w : World) (h : x < 2 ∨ 262144 < x) : Calls Tryz.prog 145 #[.int .u64 x] w (IsBool false w) := by
  by_cases h1 : x < 2
  all_goals
    go_enter Tryz.func145, Tryz.ntmps145
    go_wp2
    go_ret; exact ⟨by simp; try omega, rfl⟩
theorem may_yes (x : Int) (w : World) (h1 : 2 ≤ x) (h2 : x ≤ 262144) : Calls Tryz.prog 116 #[.int .u64 x] w (IsBool true w) := by
  go_enter Tryz.func116, Tryz.ntmps116
  go_wp2
  go_ret; exact ⟨by simp, rfl⟩
theorem may_no (x : Int) (w : World) (h : x < 2 ∨ 262144 < x) : Calls Tryz.prog 116 #[.int .u64 x] w (IsBool false w) := by
  by_cases h1 : x < 2
  all_goals
    go_enter Tryz.func116, Tryz.ntmps116
    go_wp2
    go_ret; exact ⟨by simp; try omega, rfl⟩

theorem charge (x r t : Int) (w : World) (hx : 0 ≤ x) (hr : 0 ≤ r) (ht : 0 ≤ t) :
    Calls Tryz.prog 110 #[.int .u64 x, .int .u64 r, .int .u64 t] w (Chg (cval x r t) (crem x r t) (cerr x r t) w) := by
  by_cases h1 : x < 2 ∨ 262144 < x
  · have e : cerr x r t = 4 := by unfold cerr; rw [if_pos h1]
    rw [show cval x r t = 0 by unfold cval; rw [if_neg (by omega)], show crem x r t = 0 by unfold crem; rw [if_neg (by omega)], e]
    go_enter Tryz.func110, Tryz.ntmps110
    go_wp2; go_step3; go_wp2; go_step3
    go_wp2_with (go_at_call 145; refine (mayBe_no x _ h1).mono ?_; rintro e w1 ⟨rfl, rfl⟩)
    try rw [Exit.noGoto_ret]
    go_ret3; exact ⟨rfl, Below.refl _ w⟩
  have g1 : 2 ≤ x := by omega
  have g2 : x ≤ 262144 := by omega
  by_cases h2 : x ≤ r
  · have e : cerr x r t = 1 := by unfold cerr; rw [if_neg h1, if_pos h2]
    rw [show cval x r t = 0 by unfold cval; rw [if_neg (by omega)], show crem x r t = 0 by unfold crem; rw [if_neg (by omega)], e]
    go_enter Tryz.func110, Tryz.ntmps110
    go_wp2; go_step3; go_wp2; go_step3
    go_wp2_with (go_at_call 145; refine (mayBe_yes x _ g1 g2).mono ?_; rintro e w1 ⟨rfl, rfl⟩)
    try rw [Exit.noGoto_ret]
    go_ret3; exact ⟨rfl, Below.refl _ w⟩
  by_cases h3 : 1000000000 < t
  · have e : cerr x r t = 8 := by unfold cerr; rw [if_neg h1, if_neg h2, if_pos h3]
    rw [show cval x r t = 0 by unfold cval; rw [if_neg (by omega)], show crem x r t = 0 by unfold crem; rw [if_neg (by omega)], e]
    go_enter Tryz.func110, Tryz.ntmps110
    go_wp2; go_step3; go_wp2; go_step3
    go_wp2_with (go_at_call 145; refine (mayBe_yes x _ g1 g2).mono ?_; rintro e w1 ⟨rfl, rfl⟩)
    try rw [Exit.noGoto_ret]
    go_ret3; exact ⟨rfl, Below.refl _ w⟩
  · have g3 : r < x := by omega
    have g4 : t ≤ 1000000000 := by omega
    rw [cval_in g1 g2 g3 g4, crem_in g1 g2 g3 g4, cerr_in g1 g2 g3 g4]
    obtain ⟨q1, q2, q3, q4⟩ := quot_bd g1 g3 hr g2 ht g4
    have d0 : (x == 0) = false := by simp; omega
    go_enter Tryz.func110, Tryz.ntmps110
    go_wp2; go_step3; go_wp2; go_step3
    go_wp2_with (go_at_call 145; refine (mayBe_yes x _ g1 g2).mono ?_; rintro e w1 ⟨rfl, rfl⟩)
    go_quiet (fail)
    go_wp2
    try rw [Exit.noGoto_ret]
    go_ret3; exact chg_of rfl rfl rfl (drawn w _)

theorem refCharge (x r t : Int) (w : World) (hx : 0 ≤ x) (hr : 0 ≤ r) (ht : 0 ≤ t) :
    Calls Tryz.prog 65 #[.int .u64 x, .int .u64 r, .int .u64 t] w (Chg (cval x r t) (crem x r t) (cerr x r t) w) := by
  by_cases h1 : x < 2 ∨ 262144 < x
  · have e : cerr x r t = 4 := by unfold cerr; rw [if_pos h1]
    rw [show cval x r t = 0 by unfold cval; rw [if_neg (by omega)], show crem x r t = 0 by unfold crem; rw [if_neg (by omega)], e]
    go_enter Tryz.func65, Tryz.ntmps65
    go_wp2_with (go_at_call 116; refine (may_no x _ h1).mono ?_; rintro e w1 ⟨rfl, rfl⟩)
    go_ret3; exact ⟨rfl, Below.refl _ w⟩
  have g1 : 2 ≤ x := by omega
  have g2 : x ≤ 262144 := by omega
  by_cases h2 : x ≤ r
  · have e : cerr x r t = 1 := by unfold cerr; rw [if_neg h1, if_pos h2]
    rw [show cval x r t = 0 by unfold cval; rw [if_neg (by omega)], show crem x r t = 0 by unfold crem; rw [if_neg (by omega)], e]
    go_enter Tryz.func65, Tryz.ntmps65
    go_wp2_with (go_at_call 116; refine (may_yes x _ g1 g2).mono ?_; rintro e w1 ⟨rfl, rfl⟩)
    go_ret3; exact ⟨rfl, Below.refl _ w⟩
  by_cases h3 : 1000000000 < t
  · have e : cerr x r t = 8 := by unfold cerr; rw [if_neg h1, if_neg h2, if_pos h3]
    rw [show cval x r t = 0 by unfold cval; rw [if_neg (by omega)], show crem x r t = 0 by unfold crem; rw [if_neg (by omega)], e]
    go_enter Tryz.func65, Tryz.ntmps65
    go_wp2_with (go_at_call 116; refine (may_yes x _ g1 g2).mono ?_; rintro e w1 ⟨rfl, rfl⟩)
    go_ret3; exact ⟨rfl, Below.refl _ w⟩
  · have g3 : r < x := by omega
    have g4 : t ≤ 1000000000 := by omega
    rw [cval_in g1 g2 g3 g4, crem_in g1 g2 g3 g4, cerr_in g1 g2 g3 g4]
    obtain ⟨q1, q2, q3, q4⟩ := quot_bd g1 g3 hr g2 ht g4
    have d0 : (x == 0) = false := by simp; omega
    go_enter Tryz.func65, Tryz.ntmps65
    go_wp2_with (go_at_call 116; refine (may_yes x _ g1 g2).mono ?_; rintro e w1 ⟨rfl, rfl⟩)
    go_quiet (fail)
    go_wp2
    go_ret3; exact chg_of rfl rfl rfl (drawn w _)

end Go.Proofs.YtnnjbonejbmgdaaGreat.Vrun
