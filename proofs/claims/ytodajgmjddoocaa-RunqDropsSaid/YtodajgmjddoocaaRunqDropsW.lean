/- The law RunqDrops. Conditions: each argument is a number of its kind. -/
import Derived.Test.YtodajgmjddoocaaRunqLaws
import Derived.Test.YtodajgmjddoocaaQueueSame
namespace Go.Proofs.Ytodajgmjddoocaa.Queue
open Go.ChangeShapes Go.WideShapes Go.ChangeAt Go.RowKit Tree
set_option linter.unusedVariables false
set_option linter.unusedSimpArgs false
set_option maxRecDepth 100000

/-- A slice of entities that came in. -/
def Came (u : Option Addr) (len : Nat) (w : World) : Prop := ∀ j, j < len → ∃ k off, u = some ⟨k, off, none⟩ ∧ k < w.heap.size ∧ ∃ e : Ent, (I64 e.id ∧ 0 ≤ e.wt ∧ I64 e.v ∧ 0 ≤ e.rm) ∧ w.cell? ⟨k, off + j * 4, none⟩ = some (.int .i64 e.id) ∧ w.cell? ⟨k, off + j * 4 + 1, none⟩ = some (.int .u64 e.wt) ∧ w.cell? ⟨k, off + j * 4 + 2, none⟩ = some (.int .i64 e.v) ∧ w.cell? ⟨k, off + j * 4 + 3, none⟩ = some (.int .u64 e.rm)
theorem Came.on {u : Option Addr} {len : Nat} {w w' : World} (h : Came u len w) (g : Same (· < w.heap.size) w w') : Came u len w' := by
  intro j hj
  obtain ⟨k, off, rfl, hk, e, he, c0, c1, c2, c3⟩ := h j hj
  have b := g.below
  exact ⟨k, off, rfl, Nat.lt_of_lt_of_le hk g.size, e, he, (b.cell (p := ⟨k, _, none⟩) hk).trans c0, (b.cell (p := ⟨k, _, none⟩) hk).trans c1, (b.cell (p := ⟨k, _, none⟩) hk).trans c2, (b.cell (p := ⟨k, _, none⟩) hk).trans c3⟩
theorem named_neg {st : St} (h : Sound st) : named st.es (-1) = false := by
  unfold named
  rw [List.any_eq_false]
  intro e he
  have := (h.each e he).1
  simp
  omega
theorem Qu.sorted {w : World} {q : Nat} {O : Nat → Prop} {st : St} (h : Qu w q O st) : Sorted (st.es.map Ent.key) := by
  obtain ⟨m, t, T, h⟩ := h
  rw [← h.keys]; exact h.kept.sorted
theorem cerr_ok {x r : Int} (h1 : 2 ≤ x) (h2 : x ≤ 262144) (h3 : r < x) : Vrun.cerr x r 0 = 0 := by
  unfold Vrun.cerr
  repeat' split
  all_goals omega
/-- What becomes of one that is dropped twice and put again. -/
theorem again {st : St} (hs : Sound st) (hS : Sorted (st.es.map Ent.key)) {e : Ent} (he : e ∈ st.es) :
    ∃ st1 st2, dropS st e.id = st1 ∧ errDrop st e.id = 0 ∧ find st.es e.id = e ∧ Sound st1 ∧ st.min ≤ st1.min ∧ st1.es.length + 1 = st.es.length ∧ errDrop st1 e.id = 12 ∧ find st1.es e.id = Ent.zero ∧ dropS st1 e.id = st1 ∧ errPut st1.es e = 0 ∧ putS st1 e = st2 ∧ Sound st2 ∧ st2.es = st.es := by
  have hn : named st.es e.id = true := by unfold named; rw [List.any_eq_true]; exact ⟨e, he, by simp⟩
  have hd : (dropS st e.id).es = drop st.es e.id := by unfold dropS; rw [hn, if_pos rfl, rise_es]
  have hm : st.min ≤ (dropS st e.id).min := by unfold dropS; rw [hn, if_pos rfl]; exact rise_min _
  have hs1 : Sound (dropS st e.id) := hs.drop
  have hn1 : named (dropS st e.id).es e.id = false := by rw [hd, named_drop]; simp
  have hl1 : (dropS st e.id).es.length + 1 = st.es.length := by rw [hd]; exact len_drop hs.once hn
  have h5 := hs.each e he
  have hf := hs.few
  have hp : errPut (dropS st e.id).es e = 0 := by
    unfold errPut
    rw [if_neg (by omega), if_neg (by rw [cerr_ok (by omega) (by omega) (by omega)]; simp), hn1, if_neg (by simp), if_neg (by omega)]
  refine ⟨_, _, rfl, ?_, find_mem hs.once he, hs1, hm, hl1, ?_, find_not hn1, ?_, hp, rfl, hs1.put (by unfold I64; omega) h5.2.2.2.2.2.2 (by omega), ?_⟩
  · unfold errDrop; rw [hn]; rfl
  · unfold errDrop; rw [hn1]; rfl
  · generalize dropS st e.id = s1 at *
    unfold dropS
    rw [hn1]; rfl
  · unfold putS; rw [if_pos hp, rise_es]
    show insE e (dropS st e.id).es = st.es
    rw [hd]; exact insE_drop hS hs.once he
theorem Lst.on {g : Nat} {es : List Ent} {w w' : World} (h : Lst (some ⟨g, 0, none⟩) es w) (hs : w.heap.size ≤ w'.heap.size) (hb : w'.heap[g]? = w.heap[g]?) : Lst (some ⟨g, 0, none⟩) es w' := by
  intro j e he
  obtain ⟨g', h1, h2, h3, h4, h5, h6⟩ := h j e he
  simp only [Option.some.injEq, Addr.mk.injEq, and_true] at h1
  subst h1
  exact ⟨g, rfl, Nat.lt_of_lt_of_le h2 hs, (World.cell?_of_block (a := ⟨g, _, none⟩) hb).trans h3, (World.cell?_of_block (a := ⟨g, _, none⟩) hb).trans h4, (World.cell?_of_block (a := ⟨g, _, none⟩) hb).trans h5, (World.cell?_of_block (a := ⟨g, _, none⟩) hb).trans h6⟩
def DropI (w : World) (q len left : Nat) (t : Value) (wr : World) : Prop := ∃ j : Nat, j ≤ len ∧ j ≤ 40 ∧ left = 41 - j ∧ t = .int .i64 j ∧ ∃ st, Sound st ∧ st.cur = -1 ∧ Qu wr q (· < w.heap.size) st ∧ Same (· < w.heap.size) w wr
set_option maxHeartbeats 40000000 in
set_option maxRecDepth 1000000 in
theorem dropsLaw (u : Option Addr) (len cap : Nat) (x : Int) (w : World) (hx : 0 ≤ x) (hx2 : x ≤ 255) (hl : len ≤ 9223372036854775807) (hE : Came u len w) :
    Calls Try.prog 8 #[.slice u len cap, .int .u8 x] w (IsTrue w) := by
  have CE := Lib.hid hE
  clear hE
  have A := Lib.hid (awake w)
  go_enter Try.func8, Try.ntmps8
  go_wp2_with (first
    | (go_at_call 10; refine (A.out).mono ?_; rintro e w0 ⟨rfl, hg0⟩)
    | (go_at_call 11; refine (news w0).mono ?_; rintro e w1 ⟨q, hq, rfl, hg1, hb⟩))
  have Q := Lib.hid (hb (· < w.heap.size) (fun b hb => Nat.lt_of_lt_of_le hb hg0.size))
  have S : Hid (Same (· < w.heap.size) w w1) := Same.of (fresh_trans hg0 hg1) (fun i hi => hi)
  clear hg0 hg1 hb A
  have hw01 : Hid (w0.heap.size ≤ q) := hq
  clear hq hw01
  go_loopg [7] 41 (fun left t wr => DropI w q len left t wr)
  case atStart => exact ⟨0, by omega, by omega, rfl, rfl, St.new, Sound.new, rfl, Q.out, S.out⟩
  clear Q S
  case round =>
    obtain ⟨j, hj, hj40, rfl, rfl, st, hs, hc, hq, hS⟩ := hrel
    have Q := Lib.hid hq
    have S := Lib.hid hS
    have SO := Lib.hid hs
    have CU := Lib.hid hc
    clear hq hS hs hc
    by_cases hjj : j < len ∧ j < 40
    · obtain ⟨h1, h2⟩ := hjj
      have hjl1 : (j : Int) < len := by omega
      have hjl2 : (j : Int) < 40 := by omega
      obtain ⟨k, off, rfl, hk, e, he, c0, c1, c2, c3⟩ := (CE.out.on S.out) j h1
      obtain ⟨ei, ew, ev, er⟩ := e
      obtain ⟨f0, f1, f2, f3⟩ := he
      simp only at c0 c1 c2 c3 f0 f1 f2 f3
      have P := Lib.hid (puts wr q (· < w.heap.size) st ⟨ei, ew, ev, er⟩ Q.out (fun k hk => Nat.lt_of_lt_of_le hk S.out.size) f0 f1 f3 (Nat.le_trans SO.out.few (by omega)))
      have SO' := Lib.hid (SO.out.put (e := ⟨ei, ew, ev, er⟩) f0 f2 f3)
      have CU' : Hid ((putS st ⟨ei, ew, ev, er⟩).cur = -1) := by show _ = _; unfold putS; split; rw [rise_cur]; exact CU.out; exact CU.out
      clear f0 f1 f2 f3
      simp only [Ent.val] at P
      go_wp2_with (first | (go_at_call 13; refine (P.out).mono ?_; rintro e w2 ⟨rfl, hq2, hs2⟩))
      go_roundg (41 - (j + 1))
      case measure => omega
      case rel => exact ⟨j + 1, by omega, by omega, by omega, by go_num, _, SO'.out, CU'.out, hq2, S.out.trans hs2⟩
    · have T : (¬ (j : Int) < len) ∨ ((j : Int) < len ∧ ¬ (j : Int) < 40) := by omega
      have EN := Lib.hid (ents wr q _ st Q.out SO.out.once (fun e he => by have := SO.out.each e he; unfold I64; omega) (Nat.le_trans SO.out.few (by omega)))
      have nn : named st.es st.cur = false := by rw [CU.out]; exact named_neg SO.out
      have EC : errCharge st 1 = 7 := by unfold errCharge; rw [nn]; rfl
      have CS : chargeS st 1 = st := by unfold chargeS; rw [EC]; rfl
      rcases T with h1 | ⟨h1, h2⟩
      all_goals
        go_wp2_with (first | (go_at_call 28; refine (EN.out).mono ?_; rintro e w2 ⟨v, rfl, R, hg2⟩))
        obtain ⟨ao, cp, rfl, hao, hcp⟩ := R.shape
        by_cases hnil : st.es = []
        · have hz : st.es.length = 0 := by rw [hnil]; rfl
          have C := Lib.hid (charges w2 q _ st 1 (Q.out.fresh hg2) (fun k hk => Nat.lt_of_lt_of_le hk (Nat.le_trans S.out.size hg2.size)) SO.out (by omega))
          rw [EC, CS] at C
          rw [hz] at *
          go_wp2_with (first | (go_at_call 19; refine (C.out).mono ?_; rintro e w3 ⟨rfl, hq3, hs3⟩))
          go_ret
          exact ⟨rfl, (S.out.trans ((Same.of hg2 (fun k hk => Nat.lt_of_lt_of_le hk S.out.size)).trans hs3)).below⟩
        · have hpos : 0 < st.es.length := List.length_pos_iff.2 hnil
          obtain ⟨g, rfl⟩ : ∃ g, ao = some ⟨g, 0, none⟩ := by rcases hao with h | h; omega; exact h
          have hgw : wr.heap.size ≤ g := Nat.le_of_not_lt (R.2 g rfl)
          have hg2l : g < w2.heap.size := R.lt rfl
          have Q2 := Lib.hid ((Q.out.other (O' := fun k => k < w.heap.size ∨ k = g) (fun k hk => by rcases hk with h | rfl; exact .inl h; exact .inr hgw)).fresh hg2)
          have S2 := Lib.hid (S.out.trans (Same.of hg2 (fun k hk => Nat.lt_of_lt_of_le hk S.out.size)))
          have LL := Lib.hid (R.lst rfl)
          have OK2 : Hid (∀ k, (k < w.heap.size ∨ k = g) → k < w2.heap.size) := fun k hk => by rcases hk with h | rfl; exact Nat.lt_of_lt_of_le h S2.out.size; exact hg2l
          clear Q S EN R hg2 hao
          have C := Lib.hid (charges w2 q _ st 1 Q2.out OK2.out SO.out (by omega))
          rw [EC, CS] at C
          generalize hn : st.es.length = n at *
          have hn128 : n ≤ 128 := by rw [← hn]; exact SO.out.few
          have hn0 : ((n : Int) == 0) = false := by simp; omega
          have hn0' : ¬ ((n : Int) = 0) := by omega
          go_wp2_with (first | (go_at_call 19; refine (C.out).mono ?_; rintro e w3 ⟨rfl, hq3, hs3⟩))
          have LL3 := Lib.hid (LL.out.on hs3.size (hs3.block g (.inr rfl)))
          have OK3 : Hid (∀ k, (k < w.heap.size ∨ k = g) → k < w3.heap.size) := fun k hk => Nat.lt_of_lt_of_le (OK2.out k hk) hs3.size
          replace S2 := Lib.hid (S2.out.trans (hs3.mono fun k hk => .inl hk))
          have Q3 := Lib.hid hq3
          clear hs3 hq3 Q2 OK2 LL C
          obtain ⟨k0, hk0⟩ : ∃ k0 : Nat, x % (n : Int) = k0 := ⟨(x % (n : Int)).toNat, by have := Int.emod_nonneg x hn0'; omega⟩
          have hk0n : k0 < n := by have := Int.emod_lt_of_pos x (show (0 : Int) < n by omega); omega
          obtain ⟨⟨ei, ew, ev, er⟩, he⟩ : ∃ e, st.es[k0]? = some e := ⟨_, List.getElem?_eq_getElem (by omega)⟩
          have hem := List.mem_of_getElem? he
          obtain ⟨st1, st2, a1, a2, a3, a4, a5, a6, a7, a8, a9, a10, a11, a12, a13⟩ := again SO.out Q3.out.sorted hem
          have h5 := SO.out.each _ hem
          simp only at h5 a1 a2 a3 a7 a8 a9 h5
          have M := Lib.hid (minss w3 q _ st Q3.out)
          go_wp2_with fail
          refine (M.out).mono ?_
          rintro e w4 ⟨rfl, hg4⟩
          have LL4 := Lib.hid (LL3.out.fresh hg4)
          have OK4 : Hid (∀ k, (k < w.heap.size ∨ k = g) → k < w4.heap.size) := fun k hk => Nat.lt_of_lt_of_le (OK3.out k hk) hg4.size
          replace S2 := Lib.hid (S2.out.trans (Same.of hg4 fun k hk => OK3.out k (.inl hk)))
          have Q4 := Lib.hid (Q3.out.fresh hg4)
          clear M hg4 Q3 OK3 LL3
          obtain ⟨g', eg, _, c0, c1, c2, c3⟩ := LL4.out k0 _ he
          simp only [Option.some.injEq, Addr.mk.injEq, and_true] at eg
          subst eg
          simp only at c0 c1 c2 c3
          have D := Lib.hid (dropss w4 q _ st ei Q4.out OK4.out SO.out (by unfold I64; omega))
          rw [a1, a2, a3] at D
          simp only [Ent.val] at D
          go_wp2_with fail
          refine (D.out).mono ?_
          rintro e w5 ⟨rfl, hq5, hs5⟩
          have LL5 := Lib.hid (LL4.out.on hs5.size (hs5.block g (.inr rfl)))
          have OK5 : Hid (∀ k, (k < w.heap.size ∨ k = g) → k < w5.heap.size) := fun k hk => Nat.lt_of_lt_of_le (OK4.out k hk) hs5.size
          replace S2 := Lib.hid (S2.out.trans (hs5.mono fun k hk => .inl hk))
          have Q5 := Lib.hid hq5
          clear hs5 hq5 Q4 OK4 LL4 D c0 c1 c2 c3
          obtain ⟨g', eg, _, c0, c1, c2, c3⟩ := LL5.out k0 _ he
          simp only [Option.some.injEq, Addr.mk.injEq, and_true] at eg
          subst eg
          simp only at c0 c1 c2 c3
          go_wp2_with fail
          have nb : (w5.alloc (.cells #[.int .i64 ei, .int .u64 ew, .int .i64 ev, .int .u64 er] 32)).heap[w5.heap.size]? = some (.cells #[.int .i64 ei, .int .u64 ew, .int .i64 ev, .int .u64 er] 32 (0, 0)) := heap_alloc_new _ _
          have hgv := (Below.refl w5.heap.size w5).alloc (Nat.le_refl _) (.cells #[.int .i64 ei, .int .u64 ew, .int .i64 ev, .int .u64 er] 32)
          have Q6 := Lib.hid ((Q5.out.other (O' := fun k => k < w.heap.size ∨ k = g ∨ k = w5.heap.size) (fun k hk => by rcases hk with h | h | h; exact .inl (.inl h); exact .inl (.inr h); exact .inr (by omega))).fresh hgv)
          have OK6 : Hid (∀ k, (k < w.heap.size ∨ k = g ∨ k = w5.heap.size) → k < (w5.alloc (.cells #[.int .i64 ei, .int .u64 ew, .int .i64 ev, .int .u64 er] 32)).heap.size) := fun k hk => by
            rcases hk with h | h | rfl
            · exact Nat.lt_of_lt_of_le (OK5.out k (.inl h)) hgv.size
            · exact Nat.lt_of_lt_of_le (OK5.out k (.inr h)) hgv.size
            · exact lt_of nb
          have LL6 := Lib.hid (LL5.out.fresh hgv)
          have NB6 := Lib.hid nb
          replace S2 := Lib.hid (S2.out.trans (Same.of hgv fun k hk => OK5.out k (.inl hk)))
          clear hgv nb Q5 OK5 LL5
          generalize w5.alloc (.cells #[.int .i64 ei, .int .u64 ew, .int .i64 ev, .int .u64 er] 32) = V at *
          generalize w5.heap.size = b at *
          have D := Lib.hid (dropss V q _ st1 ei Q6.out OK6.out a4 (by unfold I64; omega))
          rw [a7, a8, a9] at D
          simp only [Ent.val, Ent.zero] at D
          refine (D.out).mono ?_
          rintro e w6 ⟨rfl, hq6, hs6⟩
          replace S2 := Lib.hid (S2.out.trans (hs6.mono fun k hk => .inl hk))
          have LL7 := Lib.hid (LL6.out.on hs6.size (hs6.block g (.inr (.inl rfl))))
          have NB7 := Lib.hid ((hs6.block b (.inr (.inr rfl))).trans NB6.out)
          have OK7 : Hid (∀ k, (k < w.heap.size ∨ k = g ∨ k = b) → k < w6.heap.size) := fun k hk => Nat.lt_of_lt_of_le (OK6.out k hk) hs6.size
          have Q7 := Lib.hid hq6
          clear hs6 hq6 Q6 OK6 LL6 NB6 D c0 c1 c2 c3
          go_wp2_with fail
          have hgv := (Below.refl w6.heap.size w6).alloc (Nat.le_refl _) (.cells #[.int .i64 0, .int .u64 0, .int .i64 0, .int .u64 0] 32)
          have Q8 := Lib.hid (Q7.out.fresh hgv)
          have E8 := Lib.hid (ents _ q _ st1 Q8.out a4.once (fun e he => by have := a4.each e he; unfold I64; omega) (Nat.le_trans a4.few (by omega)))
          refine (E8.out).mono ?_
          rintro e w7 ⟨v7, rfl, R7, hg7⟩
          replace hgv := fresh_trans hgv hg7
          obtain ⟨ao7, cp7, rfl, -, -⟩ := R7.shape
          have Q9 := Lib.hid (Q7.out.fresh hgv)
          have OK9 : Hid (∀ k, (k < w.heap.size ∨ k = g ∨ k = b) → k < w7.heap.size) := fun k hk => Nat.lt_of_lt_of_le (OK7.out k hk) hgv.size
          have LL9 := Lib.hid (LL7.out.fresh hgv)
          have NB9 := Lib.hid ((hgv.block b (OK7.out b (.inr (.inr rfl)))).trans NB7.out)
          replace S2 := Lib.hid (S2.out.trans (Same.of hgv fun k hk => OK7.out k (.inl hk)))
          clear hgv hg7 E8 R7 Q8 Q7 OK7 LL7 NB7
          have M := Lib.hid (minss w7 q _ st1 Q9.out)
          go_wp2_with fail
          refine (M.out).mono ?_
          rintro e w8 ⟨rfl, hg8⟩
          have Q10 := Lib.hid (Q9.out.fresh hg8)
          have OK10 : Hid (∀ k, (k < w.heap.size ∨ k = g ∨ k = b) → k < w8.heap.size) := fun k hk => Nat.lt_of_lt_of_le (OK9.out k hk) hg8.size
          have LL10 := Lib.hid (LL9.out.fresh hg8)
          have nb := ((hg8.block b (OK9.out b (.inr (.inr rfl)))).trans NB9.out)
          replace S2 := Lib.hid (S2.out.trans (Same.of hg8 fun k hk => OK9.out k (.inl hk)))
          clear M Q9 OK9 LL9 NB9 hg8
          have m0 := cell_of_row w8 _ 0 _ _ _ nb
          have m1 := cell_of_row w8 _ 1 _ _ _ nb
          have m2 := cell_of_row w8 _ 2 _ _ _ nb
          have m3 := cell_of_row w8 _ 3 _ _ _ nb
          have NB10 := Lib.hid nb
          clear nb
          have P := Lib.hid (puts w8 q _ st1 ⟨ei, ew, ev, er⟩ Q10.out OK10.out (by unfold I64; simp only; omega) (by simp only; omega) (by simp only; omega) (Nat.le_trans a4.few (by omega)))
          rw [a10, a11] at P
          simp only [Ent.val] at P
          go_wp2_with fail
          refine (P.out).mono ?_
          rintro e w9 ⟨rfl, hq9, hs9⟩
          have LL11 := Lib.hid (LL10.out.on hs9.size (hs9.block g (.inr (.inl rfl))))
          have nb := (hs9.block b (.inr (.inr rfl))).trans NB10.out
          have OK11 : Hid (∀ k, (k < w.heap.size ∨ k = g ∨ k = b) → k < w9.heap.size) := fun k hk => Nat.lt_of_lt_of_le (OK10.out k hk) hs9.size
          replace S2 := Lib.hid (S2.out.trans (hs9.mono fun k hk => .inl hk))
          have Q11 := Lib.hid hq9
          clear hs9 hq9 Q10 OK10 LL10 NB10 P m0 m1 m2 m3
          have m0 := cell_of_row w9 _ 0 _ _ _ nb
          have m1 := cell_of_row w9 _ 1 _ _ _ nb
          have m2 := cell_of_row w9 _ 2 _ _ _ nb
          have m3 := cell_of_row w9 _ 3 _ _ _ nb
          clear nb
          obtain ⟨g', eg, _, c0, c1, c2, c3⟩ := LL11.out k0 _ he
          simp only [Option.some.injEq, Addr.mk.injEq, and_true] at eg
          subst eg
          simp only at c0 c1 c2 c3
          have hl1 : (n : Int) - 1 = (st1.es.length : Int) := by omega
          have hn1 : st1.es.length ≤ 128 := by omega
          have hl2 : st2.es.length = n := by rw [a13]; exact hn
          have E12 : Hid (∀ w', Below w9.heap.size w9 w' → Calls Try.prog 28 #[.pointer (some ⟨q, 0, none⟩)] w' (Told st2.es w')) := fun w' h => ents w' q _ st2 (Q11.out.fresh h) a12.once (fun e he => by have := a12.each e he; unfold I64; omega) (Nat.le_trans a12.few (by omega))
          have SM : Hid (∀ w' w2 ao cp2, Below w9.heap.size w9 w' → Row w2 (· < w'.heap.size) 32 4 (.slice ao n cp2) n (cellsE st2.es) → Below w'.heap.size w' w2 → ∀ w3, Below w2.heap.size w2 w3 → Calls Try.prog 37 #[.slice ao n cp2, .slice (some ⟨g, 0, none⟩) n cp] w3 (Is (.bool true) w3)) := by
            intro w' w2 ao cp2 h1 h2 h3 w3 h4
            have hL1 := (Row.lst h2 hl2.symm).fresh h4
            rw [a13] at hL1
            have hL2 := LL11.out.fresh (fresh_trans (fresh_trans h1 h3) h4)
            have := sames w3 ao (some ⟨g, 0, none⟩) cp2 cp st.es (by omega) hL1 hL2
            rwa [hn] at this
          have FIN : Hid (∀ w', Below w9.heap.size w9 w' → Below w.heap.size w w') := fun w' h => (S2.out.trans (Same.of h fun k hk => OK11.out k (.inl hk))).below
          have hmin := a5
          generalize st1.es.length = n1 at *
          have hwr : IntKind.i64.wrap (n1 : Int) = (n1 : Int) := by rw [IntKind.wrap_i64]; omega
          generalize st1.min = mn1 at *
          generalize st.min = mn0 at *
          clear a1 a2 a3 a4 a5 a6 a7 a8 a9 a10 a11 a12 h5 SO CU EC CS nn Q11 LL11 OK11 S2 he hem CE
          go_wp2_with fail
          have hbl := World.block_lt_of_cell? _ _ m0
          have hgl := World.block_lt_of_cell? _ _ c0
          simp only at hbl hgl
          have KE : Hid (∀ w', Below w9.heap.size w9 w' → w'.cell? ⟨b, 0, none⟩ = some (.int .i64 ei) ∧ w'.cell? ⟨b, 1, none⟩ = some (.int .u64 ew) ∧ w'.cell? ⟨b, 2, none⟩ = some (.int .i64 ev) ∧ w'.cell? ⟨b, 3, none⟩ = some (.int .u64 er) ∧ w'.cell? ⟨g, k0 * 4, none⟩ = some (.int .i64 ei) ∧ w'.cell? ⟨g, k0 * 4 + 1, none⟩ = some (.int .u64 ew) ∧ w'.cell? ⟨g, k0 * 4 + 2, none⟩ = some (.int .i64 ev) ∧ w'.cell? ⟨g, k0 * 4 + 3, none⟩ = some (.int .u64 er)) := fun w' h => ⟨(h.cell (p := ⟨b, 0, none⟩) hbl).trans m0, (h.cell (p := ⟨b, 1, none⟩) hbl).trans m1, (h.cell (p := ⟨b, 2, none⟩) hbl).trans m2, (h.cell (p := ⟨b, 3, none⟩) hbl).trans m3, (h.cell (p := ⟨g, _, none⟩) hgl).trans c0, (h.cell (p := ⟨g, _, none⟩) hgl).trans c1, (h.cell (p := ⟨g, _, none⟩) hgl).trans c2, (h.cell (p := ⟨g, _, none⟩) hgl).trans c3⟩
          have hB9 := Lib.hid (Below.refl w9.heap.size w9)
          go_region_held3 (fun w' => w'.cell? ⟨b, 0, none⟩ = some (.int .i64 ei) ∧ w'.cell? ⟨b, 1, none⟩ = some (.int .u64 ew) ∧ w'.cell? ⟨b, 2, none⟩ = some (.int .i64 ev) ∧ w'.cell? ⟨b, 3, none⟩ = some (.int .u64 er) ∧ w'.cell? ⟨g, k0 * 4, none⟩ = some (.int .i64 ei) ∧ w'.cell? ⟨g, k0 * 4 + 1, none⟩ = some (.int .u64 ew) ∧ w'.cell? ⟨g, k0 * 4 + 2, none⟩ = some (.int .i64 ev) ∧ w'.cell? ⟨g, k0 * 4 + 3, none⟩ = some (.int .u64 er)) (first | exact ⟨m0, m1, m2, m3, c0, c1, c2, c3⟩ | exact KE.out _ hB10.out | exact KE.out _ hB11.out)
            (first
              | (go_at_call 28; refine (E12.out _ (by first | exact Below.refl _ _ | exact (Below.refl _ _).drew)).mono ?_; rintro e w10 ⟨v10, rfl, R10, hg10⟩; rw [hl2] at R10; obtain ⟨ao10, cp10, rfl, -, -⟩ := R10.shape; have hB10 := Lib.hid (fresh_trans (Below.refl w9.heap.size w9) (undrew hg10)))
              | (go_at_call 37; refine (SM.out _ _ _ _ (by first | exact Below.refl _ _ | exact (Below.refl _ _).drew) R10 hg10 _ (by first | exact Below.refl _ _ | exact (Below.refl _ _).drew)).mono ?_; rintro e w11 ⟨rfl, hg11⟩; have hB11 := Lib.hid (fresh_trans hB10.out hg11)))
          go_wp2_with fail
          go_ret
          exact ⟨rfl, FIN.out _ hB11.out⟩
end Go.Proofs.Ytodajgmjddoocaa.Queue
