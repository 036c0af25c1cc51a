/- Deeds in memory; what the laws' few returns. Conditions: each number is one of its kind. -/
import Derived.Test.YtnocgdhepmgncaaLedgerLaws
import Derived.Deep.RegionLaw
namespace Go.Proofs.Ytnocgdhepmgncaa.Ledger
open Go.ChangeShapes Go.WideShapes Go.ChangeAt Go.RowKit Go.Sort Mem
set_option linter.unusedVariables false
set_option linter.unusedSimpArgs false
set_option maxRecDepth 100000

/-- A deed, and a row of the document's: a path, a task, how much, and whether. -/
structure De where
  a : Option Addr
  n : Nat
  c : Nat
  xs : List Int
  t : Int
  ns : Int
  gone : Bool
abbrev De.cells (d : De) : List Value := [.slice d.a d.n d.c, .int .i64 d.t, .int .i64 d.ns, .bool d.gone]
/-- What is known of one: its path lies below B, and has 20 at most. -/
structure De.Is (B : Nat) (w : World) (d : De) : Prop where
  path : Path (fun k => k < B) w d.a d.n d.c d.xs
  t : I64 d.t
  ns : I64 d.ns
  few : d.n ≤ 20
  cap : d.n ≤ d.c
theorem De.Is.fresh {B : Nat} {w w' : World} {d : De} (h : d.Is B w) (hs : B ≤ w.heap.size) (hg : Below B w w') : d.Is B w' := ⟨h.path.on hg.size (fun k hk _ => hg.block k hk), h.t, h.ns, h.few, h.cap⟩
def cellsD : List De → List Value
  | [] => []
  | d :: l => d.cells ++ cellsD l
theorem cellsD_append (l m : List De) : cellsD (l ++ m) = cellsD l ++ cellsD m := by
  induction l with
  | nil => rfl
  | cons d l ih => simp only [List.cons_append, cellsD, ih, List.append_assoc]
theorem cellsD_len (l : List De) : (cellsD l).length = l.length * 4 := by
  induction l with
  | nil => rfl
  | cons d l ih => simp only [cellsD, List.length_append, List.length_cons, List.length_nil, ih]; omega
theorem cellsD_one (l : List De) : ∀ y ∈ cellsD l, y.oneCell' = true := by
  induction l with
  | nil => intro y hy; cases hy
  | cons d l ih =>
    intro y hy
    simp only [cellsD, List.mem_append, De.cells, List.mem_cons, List.not_mem_nil, or_false] at hy
    rcases hy with (rfl | rfl | rfl | rfl) | hy
    · rfl
    · rfl
    · rfl
    · rfl
    · exact ih y hy
theorem cellsD_at {l : List De} {j : Nat} {d : De} (h : l[j]? = some d) {i : Nat} (hi : i < 4) : (cellsD l)[j * 4 + i]? = d.cells[i]? := by
  induction l generalizing j with
  | nil => simp at h
  | cons x l ih =>
    simp only [cellsD]
    have hx : x.cells.length = 4 := rfl
    cases j with
    | zero =>
      simp at h
      subst h
      rw [Nat.zero_mul, Nat.zero_add, List.getElem?_append_left (by omega)]
    | succ j =>
      rw [List.getElem?_append_right (by omega), hx, show (j + 1) * 4 + i - 4 = j * 4 + i by omega]
      exact ih (by simpa using h)
theorem infoD : (Try.prog.info? 32).map (fun i => (i.zero, i.size, i.bytes)) = some (some (.agg #[.slice none 0 0, .int .i64 0, .int .i64 0, .bool false]), 4, 48) := by kernel_rfl

/-- A list of such in memory. -/
def Lst (v : Option Addr) (l : List De) (w : World) : Prop := ∀ j d, l[j]? = some d → ∃ k off, v = some ⟨k, off, none⟩ ∧ k < w.heap.size ∧ w.cell? ⟨k, off + j * 4, none⟩ = some (.slice d.a d.n d.c) ∧ w.cell? ⟨k, off + j * 4 + 1, none⟩ = some (.int .i64 d.t) ∧ w.cell? ⟨k, off + j * 4 + 2, none⟩ = some (.int .i64 d.ns) ∧ w.cell? ⟨k, off + j * 4 + 3, none⟩ = some (.bool d.gone)
theorem Lst.nil (v : Option Addr) (w : World) : Lst v [] w := fun j d h => by simp at h
theorem Lst.on {v : Option Addr} {l : List De} {w w' : World} (h : Lst v l w) (hs : w.heap.size ≤ w'.heap.size) (hb : ∀ k off, v = some ⟨k, off, none⟩ → k < w.heap.size → w'.heap[k]? = w.heap[k]?) : Lst v l w' := by
  intro j d hj
  obtain ⟨k, o, e, hk, c0, c1, c2, c3⟩ := h j d hj
  exact ⟨k, o, e, by omega, (World.cell?_of_block (hb k o e hk)).trans c0, (World.cell?_of_block (hb k o e hk)).trans c1, (World.cell?_of_block (hb k o e hk)).trans c2, (World.cell?_of_block (hb k o e hk)).trans c3⟩
theorem Lst.fresh {v : Option Addr} {l : List De} {w w' : World} (h : Lst v l w) (hg : Below w.heap.size w w') : Lst v l w' := h.on hg.size fun k _ _ hk => hg.block k hk
theorem lst_own {w : World} {B n : Nat} {e : TypeId} {v : Option Addr} {cap : Nat} {l : List De} (h : w.ownsRow B e 4 (.slice v n cap) n (cellsD l)) : Lst v l w ∧ l.length = n ∧ ∀ k off, v = some ⟨k, off, none⟩ → B ≤ k ∧ k < w.heap.size := by
  have hl := h.1
  rw [cellsD_len] at hl
  rcases h.2 with ⟨e1, e2⟩ | ⟨g, cp, cur, e1, h0, hg, h1⟩
  · cases e1
    obtain rfl : l = [] := List.eq_nil_of_length_eq_zero (by omega)
    exact ⟨Lst.nil _ _, rfl, fun k off e => by cases e⟩
  · cases e1
    refine ⟨fun j d hj => ?_, by omega, fun k off e => by cases e; exact ⟨h0, lt_of hg⟩⟩
    have hjl := (List.getElem?_eq_some_iff.1 hj).1
    have A : ∀ i, i < 4 → w.cell? ⟨g, j * 4 + i, none⟩ = d.cells[i]? := fun i hi => by rw [h.cellAt _ (by omega), cellsD_at hj hi]
    exact ⟨g, 0, rfl, lt_of hg, by rw [Nat.zero_add]; exact A 0 (by omega), by rw [Nat.zero_add]; exact A 1 (by omega), by rw [Nat.zero_add]; exact A 2 (by omega), by rw [Nat.zero_add]; exact A 3 (by omega)⟩

/-- Deeds that came in. -/
def Comes (v : Option Addr) (len : Nat) (w : World) : Prop := ∀ j, j < len → ∃ k off, v = some ⟨k, off, none⟩ ∧ k < w.heap.size ∧ ∃ d : De, d.n ≤ 9223372036854775807 ∧ (d.n ≤ 20 → d.Is w.heap.size w) ∧ w.cell? ⟨k, off + j * 4, none⟩ = some (.slice d.a d.n d.c) ∧ w.cell? ⟨k, off + j * 4 + 1, none⟩ = some (.int .i64 d.t) ∧ w.cell? ⟨k, off + j * 4 + 2, none⟩ = some (.int .i64 d.ns) ∧ w.cell? ⟨k, off + j * 4 + 3, none⟩ = some (.bool d.gone)
theorem Comes.fresh {v : Option Addr} {len : Nat} {w w' : World} (h : Comes v len w) (hg : Below w.heap.size w w') : Comes v len w' := by
  intro j hj
  obtain ⟨k, o, e, hk, d, hn, hi, c0, c1, c2, c3⟩ := h j hj
  have hs := hg.size
  refine ⟨k, o, e, by omega, d, hn, fun h20 => ?_, (hg.cell (p := ⟨k, _, none⟩) hk).trans c0, (hg.cell (p := ⟨k, _, none⟩) hk).trans c1, (hg.cell (p := ⟨k, _, none⟩) hk).trans c2, (hg.cell (p := ⟨k, _, none⟩) hk).trans c3⟩
  have := (hi h20).fresh (Nat.le_refl _) hg
  exact { this with path := this.path.lift fun k hk => Nat.lt_of_lt_of_le hk hs }
def FewI (n : Nat) (w : World) (left : Nat) (t3 t4 : Value) (wr : World) : Prop :=
  ∃ (k : Nat) (l : List De), k ≤ n ∧ k ≤ 60 ∧ left = 60 - k ∧ t4 = .int .i64 (k : Int) ∧ l.length ≤ k ∧ (∀ d ∈ l, d.Is w.heap.size w) ∧ wr.ownsRow w.heap.size 32 4 t3 l.length (cellsD l) ∧ Below w.heap.size w wr
/-- What few hands back. -/
def Few (w : World) (e : Ending) (w' : World) : Prop := ∃ (v : Option Addr) (cap : Nat) (l : List De), e = .returned (.slice v l.length cap) ∧ l.length ≤ 60 ∧ (∀ d ∈ l, d.Is w.heap.size w) ∧ Lst v l w' ∧ (∀ k off, v = some ⟨k, off, none⟩ → w.heap.size ≤ k ∧ k < w'.heap.size) ∧ Below w.heap.size w w'
set_option maxHeartbeats 4000000 in
theorem few (v : Option Addr) (n cap : Nat) (w : World) (hn : n ≤ 9223372036854775807) (hc : Comes v n w) :
    Calls Try.prog 10 #[.slice v n cap] w (Few w) := by
  obtain ⟨i0, hi, hz0, hz1, hz2⟩ := info_parts infoD
  have HC := Lib.hid hc
  clear hc
  go_enter Try.func10, Try.ntmps10
  go_wp2
  go_loopg [3, 4] 60 (fun left t3 t4 wr => FewI n w left t3 t4 wr)
  case atStart => exact ⟨0, [], by omega, by omega, rfl, rfl, by simp, by simp, World.ownsRow_nil _ _ _ _, Below.refl _ _⟩
  case round =>
    obtain ⟨k, l, hk1, hk2, rfl, rfl, hl, hd, hown, hb⟩ := hrel
    obtain ⟨ao, cp, rfl⟩ := owns_shape hown
    by_cases hlt : k < n ∧ k < 60
    · obtain ⟨l1, l2⟩ := hlt
      have q1 : (k : Int) < n := by omega
      have q2 : (k : Int) < 60 := by omega
      obtain ⟨b1, o1, rfl, hb1, d, hdn, hdi, c0, c1, c2, c3⟩ := HC.out k l1
      have x0 := (hb.cell (p := ⟨b1, _, none⟩) hb1).trans c0
      have x1 := (hb.cell (p := ⟨b1, _, none⟩) hb1).trans c1
      have x2 := (hb.cell (p := ⟨b1, _, none⟩) hb1).trans c2
      have x3 := (hb.cell (p := ⟨b1, _, none⟩) hb1).trans c3
      clear c0 c1 c2 c3
      by_cases hs : d.n ≤ 20
      · have q3 : (d.n : Int) ≤ 20 := by omega
        have HF := Lib.hid (fun (v' : Value) (w2 : World) (h : w2.ownsRow w.heap.size 32 4 v' (l.length + 1) (cellsD l ++ d.cells)) (g : Below w.heap.size w w2) => (show FewI n w (60 - (k + 1)) v' (.int .i64 ((k : Int) + 1)) w2 from ⟨k + 1, l ++ [d], by omega, by omega, rfl, by simp, by simp; omega, fun x hx => by
          rcases List.mem_append.1 hx with hx | hx
          · exact hd x hx
          · simp at hx; subst hx; exact hdi hs, by rw [cellsD_append, List.length_append]; simpa [cellsD] using h, g⟩))
        have hsz := hb.size
        clear hdi hd HC
        generalize cellsD l = U at *
        generalize l.length = m at *
        obtain ⟨da, dn, dc, dx, dt, dns, dg⟩ := d
        simp only [De.cells] at *
        go_wp2_with (at_builtin; refine wpList_append_own _ rfl (.tmp 22) (.tmp 27) 22 rfl w.heap.size 32 i0 _ 4 48 Try.underlying22 hi hz0 hz1 hz2 rfl (by decide) _ _ U rfl (hown.alloc _) ⟨wr.heap.size, 0, none⟩ 1 1 [.slice da dn dc, .int .i64 dt, .int .i64 dns, .bool dg] rfl rfl (World.news_of_block (heap_alloc_new wr _)) (by simp [Value.oneCell']) (by simp only [maxLen]; omega) (by omega) (by simp; omega) ?_; intro v' w4 hown4 hgrow4 _; have hb4 := (hb.alloc (by omega) _).grown hgrow4 (by simp; omega) (fun j hj => (hown.lt j hj).1))
        go_roundg (60 - (k + 1))
        case measure => omega
        case rel => exact HF.out _ _ hown4 hb4
      · have q3 : ¬ (d.n : Int) ≤ 20 := by omega
        have HF := Lib.hid (show FewI n w (60 - (k + 1)) (.slice ao l.length cp) (.int .i64 ((k : Int) + 1)) wr from ⟨k + 1, l, by omega, by omega, rfl, by simp, by omega, hd, hown, hb⟩)
        clear hdi hd HC hown
        go_wp2_with fail
        go_roundg (60 - (k + 1))
        case measure => omega
        case rel => exact HF.out
    · have hdd : ¬ (k : Int) < n ∨ ((k : Int) < n ∧ ¬ (k : Int) < 60) := by omega
      have HF := Lib.hid (show Few w (.returned (.slice ao l.length cp)) wr from ⟨ao, cp, l, rfl, by omega, hd, (lst_own hown).1, (lst_own hown).2.2, hb⟩)
      clear hd HC hown hlt
      rcases hdd with q1 | ⟨q1, q2⟩
      all_goals
        go_wp2_with fail
        go_ret
        exact HF.out
end Go.Proofs.Ytnocgdhepmgncaa.Ledger
