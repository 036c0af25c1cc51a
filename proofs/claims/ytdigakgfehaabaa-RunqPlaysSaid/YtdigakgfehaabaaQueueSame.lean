/- What doleref08.Same answers of two lists that are the same; and what is dropped and put again stands as it did. Conditions: none. -/
import Derived.Test.YtdigakgfehaabaaQueueEnts
import Derived.Test.YtdigakgfehaabaaQueueSound
namespace Go.Proofs.Ytdigakgfehaabaa.Queue
open Go.ChangeShapes Go.WideShapes Go.ChangeAt Go.RowKit Tree
set_option linter.unusedVariables false
set_option linter.unusedSimpArgs false
set_option maxRecDepth 100000

theorem cellsE_at {l : List Ent} {j : Nat} {e : Ent} (h : l[j]? = some e) : (cellsE l)[j * 4]? = some (.int .i64 e.id) ∧ (cellsE l)[j * 4 + 1]? = some (.int .u64 e.wt) ∧ (cellsE l)[j * 4 + 2]? = some (.int .i64 e.v) ∧ (cellsE l)[j * 4 + 3]? = some (.int .u64 e.rm) := by
  induction l generalizing j with
  | nil => simp at h
  | cons q l ih =>
    cases j with
    | zero => simp at h; subst h; simp [cellsE]
    | succ j =>
      simp at h
      obtain ⟨h1, h2, h3, h4⟩ := ih h
      rw [show (j + 1) * 4 = j * 4 + 4 by omega]
      exact ⟨by simpa [cellsE] using h1, by simpa [cellsE] using h2, by simpa [cellsE] using h3, by simpa [cellsE] using h4⟩
/-- A list of entities in memory: each at its place. -/
def Lst (v : Option Addr) (es : List Ent) (w : World) : Prop := ∀ j e, es[j]? = some e → ∃ g, v = some ⟨g, 0, none⟩ ∧ g < w.heap.size ∧ w.cell? ⟨g, j * 4, none⟩ = some (.int .i64 e.id) ∧ w.cell? ⟨g, j * 4 + 1, none⟩ = some (.int .u64 e.wt) ∧ w.cell? ⟨g, j * 4 + 2, none⟩ = some (.int .i64 e.v) ∧ w.cell? ⟨g, j * 4 + 3, none⟩ = some (.int .u64 e.rm)
theorem Row.lst {w : World} {O : Nat → Prop} {ao : Option Addr} {n cap : Nat} {es : List Ent} (h : Row w O 32 4 (.slice ao n cap) n (cellsE es)) (hn : n = es.length) : Lst ao es w := by
  intro j e he
  have hj : j < es.length := (List.getElem?_eq_some_iff.1 he).1
  rcases h.1.2 with ⟨h1, h2⟩ | ⟨g, cap', cur, hv, _, _, _⟩
  · omega
  · simp only [Value.slice.injEq] at hv
    obtain ⟨rfl, _, _⟩ := hv
    obtain ⟨c0, c1, c2, c3⟩ := cellsE_at he
    have add : ∀ n, (⟨g, 0, none⟩ : Addr).add n = ⟨g, n, none⟩ := fun n => by unfold Addr.add; split <;> simp_all
    have k := fun j u hx => h.1.cells (g := g) rfl j u hx
    refine ⟨g, rfl, (h.1.lt g rfl).2, ?_, ?_, ?_, ?_⟩
    · have := k _ _ c0; rwa [add] at this
    · have := k _ _ c1; rwa [add] at this
    · have := k _ _ c2; rwa [add] at this
    · have := k _ _ c3; rwa [add] at this
theorem drewNN (W : World) (a b : Nat) : (W.drewN a).drewN b = W.drewN (a + b) := by simp [World.drewN, Nat.add_assoc]
def SameI (n : Nat) (W : World) (left : Nat) (t : Value) (wr : World) : Prop := ∃ j nn : Nat, j ≤ n ∧ left = n - j ∧ t = .int .i64 j ∧ Hid (wr = W.drewN nn)
theorem Lst.fresh {v : Option Addr} {es : List Ent} {w w' : World} (h : Lst v es w) (hg : Below w.heap.size w w') : Lst v es w' := by
  intro j e he
  obtain ⟨g, h1, h2, h3, h4, h5, h6⟩ := h j e he
  exact ⟨g, h1, Nat.lt_of_lt_of_le h2 hg.size, (hg.cell (p := ⟨g, _, none⟩) h2).trans h3, (hg.cell (p := ⟨g, _, none⟩) h2).trans h4, (hg.cell (p := ⟨g, _, none⟩) h2).trans h5, (hg.cell (p := ⟨g, _, none⟩) h2).trans h6⟩
set_option maxHeartbeats 2000000 in
/-- Two lists that are the same. -/
theorem sames (w : World) (a b : Option Addr) (ca cb : Nat) (es : List Ent) (hl : es.length ≤ 1000) (ha : Lst a es w) (hb : Lst b es w) :
    Calls Try.prog 49 #[.slice a es.length ca, .slice b es.length cb] w (Is (.bool true) w) := by
  have HA := Lib.hid ha
  have HB := Lib.hid hb
  clear ha hb
  generalize hlen : es.length = len at *
  go_enter Try.func49, Try.ntmps49
  go_wp2_with fail
  go_loopg [5] len (fun left t wr => SameI len w left t wr)
  case atStart => exact ⟨0, 0, by omega, rfl, rfl, rfl⟩
  case round =>
    obtain ⟨j, nn, hj, rfl, rfl, HW⟩ := hrel
    have hBW : Below w.heap.size w wr := by rw [HW.out]; exact drawn w nn
    by_cases hjl : j < len
    · have hjl1 : (j : Int) < len := by omega
      obtain ⟨e, he⟩ : ∃ e, es[j]? = some e := ⟨_, List.getElem?_eq_getElem (by omega)⟩
      obtain ⟨g1, e1, _, x0, x1, x2, x3⟩ := HA.out.fresh hBW j e he
      obtain ⟨g2, e2, _, y0, y1, y2, y3⟩ := HB.out.fresh hBW j e he
      subst e1 e2
      obtain ⟨ei, ew, ev, er⟩ := e
      simp only at x0 x1 x2 x3 y0 y1 y2 y3
      go_wp2_with fail
      go_quiet (fail)
      go_wp2_with fail
      go_roundg (len - (j + 1))
      case measure => omega
      case rel => exact ⟨j + 1, nn + nq, by omega, rfl, by go_num, Lib.hid (by rw [HW.out, drewNN])⟩
    · obtain rfl : j = len := by omega
      go_wp2_with fail
      go_ret
      exact ⟨rfl, hBW⟩
/-- What is dropped and put again stands as it did. -/
theorem insE_drop {es : List Ent} (hs : Sorted (es.map Ent.key)) (ho : Once es) {e : Ent} (he : e ∈ es) : insE e (drop es e.id) = es := by
  induction es with
  | nil => simp at he
  | cons x l ih =>
    unfold Sorted at hs
    rw [List.map_cons, List.pairwise_cons] at hs
    unfold Once at ho
    rw [List.pairwise_cons] at ho
    rcases List.mem_cons.1 he with rfl | he'
    · have hd : drop (e :: l) e.id = l := by
        unfold drop
        rw [List.filter_cons, if_neg (by simp), List.filter_eq_self]
        intro y hy
        simp
        exact fun h => ho.1 y hy h.symm
      rw [hd]
      cases l with
      | nil => rfl
      | cons y l => simp only [insE]; rw [if_pos (hs.1 y.key (by simp))]
    · have hx : x.id ≠ e.id := ho.1 e he'
      have hd : drop (x :: l) e.id = x :: drop l e.id := by
        unfold drop
        rw [List.filter_cons, if_pos (by simp [hx])]
      rw [hd]
      simp only [insE]
      rw [if_neg (lt_asymm (hs.1 e.key (List.mem_map.2 ⟨e, he', rfl⟩))), ih hs.2 ho.2 he']
end Go.Proofs.Ytdigakgfehaabaa.Queue
