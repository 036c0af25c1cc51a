/- What New, mayBe, mayPut and Put of package runq do. Conditions: each number is one of its kind. -/
import Derived.Test.YteoemafdknmklaaQueueRaise
import Derived.Test.YteoemafdknmklaaVrunSome
namespace Go.Proofs.Yteoemafdknmklaa.Queue
open Go.ChangeShapes Go.WideShapes Go.ChangeAt Go.RowKit Tree
set_option linter.unusedVariables false
set_option linter.unusedSimpArgs false
set_option maxRecDepth 100000

theorem mayBes (x r : Int) (w : World) (hx : 0 ≤ x) (hr : 0 ≤ r) : Calls Try.prog 64 #[.int .u64 x, .int .u64 r] w (Is (.int .i64 (Vrun.cerr x r 0)) w) := by
  have C := Lib.hid (fun w => Vrun.charge x r 0 w hx hr (by omega))
  generalize Vrun.cval x r 0 = a at *
  generalize Vrun.crem x r 0 = b at *
  generalize Vrun.cerr x r 0 = c at *
  go_enter Try.func64, Try.ntmps64
  go_wp2_with (go_at_call 58; refine (C.out _).mono ?_; rintro e w1 ⟨rfl, hg⟩)
  go_ret; exact ⟨rfl, hg⟩
/-- Why an entity may not be put, or 0. -/
def errPut (es : List Ent) (e : Ent) : Int :=
  if e.id < 0 then 1 else if Vrun.cerr e.wt e.rm 0 ≠ 0 then Vrun.cerr e.wt e.rm 0 else if named es e.id then 6 else if 128 ≤ es.length then 3 else 0
set_option maxHeartbeats 2000000 in
theorem mayPuts (w : World) (q : Nat) (O : Nat → Prop) (st : St) (e : Ent) (h : Qu w q O st) (hid : I64 e.id) (hw : 0 ≤ e.wt) (hr : 0 ≤ e.rm) (hl : st.es.length ≤ 500) :
    Calls Try.prog 45 #[.pointer (some ⟨q, 0, none⟩), e.val] w (Is (.int .i64 (errPut st.es e)) w) := by
  have B := Lib.hid (fun w => mayBes e.wt e.rm w hw hr)
  obtain ⟨m, t, T, h⟩ := h
  obtain ⟨c0, c1, c2, c3, c4, fz⟩ := h.blk.cells
  have hq := h.blk.lt
  have L := Lib.hid (fun w' (g : Below w.heap.size w w') => (h.map.fresh g).look hid)
  have N := Lib.hid (fun w' (g : Below w.heap.size w w') ty => (h.map.fresh g).len ty)
  unfold errPut
  generalize st.es.length = len at *
  generalize find st.es e.id = fe at *
  generalize named st.es e.id = nm at *
  generalize Vrun.cerr e.wt e.rm 0 = er at *
  obtain ⟨ea, eb, ec, ed⟩ := e
  obtain ⟨fa, fb, fc, fd⟩ := fe
  simp only [Ent.val, mapT] at *
  have hgW := (Below.refl w.heap.size w).alloc (Nat.le_refl _) (.cells #[.int .i64 ea, .int .u64 eb, .int .i64 ec, .int .u64 ed] 30)
  clear h
  by_cases h0 : ea < 0
  · rw [if_pos h0]
    go_enter Try.func45, Try.ntmps45
    go_wp2_with fail
    go_ret; exact ⟨rfl, hgW⟩
  rw [if_neg h0]
  by_cases h1 : er = 0
  · subst h1
    rw [if_neg (by simp)]
    have step : ∀ w1, Below w.heap.size w w1 → (Sem.run Try.prog (Instr.lookup 65 (.map (some m)) (.int .i64 ea) true) w1.drew = .ok (.tuple #[.agg #[.int .i64 fa, .int .u64 fb, .int .i64 fc, .int .u64 fd], .bool nm]) w1.drew) ∧
        (∀ o, Sem.run Try.prog (Instr.lookup 65 (.map (some m)) (.int .i64 ea) true) (w1.alloc o).drew = .ok (.tuple #[.agg #[.int .i64 fa, .int .u64 fb, .int .i64 fc, .int .u64 fd], .bool nm]) (w1.alloc o).drew) ∧
        (∀ o ty, Sem.run Try.prog (Builtin.len_ #[65] ty #[.map (some m)]) (w1.alloc o).drew = .ok (.int .i64 len) (w1.alloc o).drew) := fun w1 g => by
      have g2 := fun o => fresh_trans g ((Below.refl _ w1).alloc (Nat.le_refl _) o)
      exact ⟨L.out _ g.drew, fun o => L.out _ (g2 o).drew, fun o ty => N.out _ (g2 o).drew ty⟩
    have ST := Lib.hid step
    clear step L N
    cases nm
    · by_cases h2 : (128 : Int) ≤ len
      all_goals
        rw [show (if false = true then (6 : Int) else if 128 ≤ len then 3 else 0) = if (128 : Int) ≤ len then 3 else 0 by simp; congr 1; apply propext; omega]
        first
          | rw [if_pos h2]
          | rw [if_neg h2]
        go_enter Try.func45, Try.ntmps45
        go_wp2_with (go_at_call 64; refine (B.out _).mono ?_; rintro e w1 ⟨rfl, hg1⟩; obtain ⟨n0, n1, n2, n3, nz, nn⟩ := new_four hg1; replace hgW := fresh_trans hgW hg1; obtain ⟨l1, l2, l3⟩ := ST.out _ hgW; have x0 := (hgW.cell (p := ⟨q, 0, none⟩) hq).trans c0; have hlt1 := lt_of nn; have hq1 := Nat.lt_trans hq hlt1; clear hg1 nn nz)
        go_region
        all_goals
          go_wp2_with fail
          go_ret; exact ⟨rfl, fresh_trans hgW (((Below.refl _ _).alloc (Nat.le_refl _) _).drew)⟩
    · simp only [if_true]
      go_enter Try.func45, Try.ntmps45
      go_wp2_with (go_at_call 64; refine (B.out _).mono ?_; rintro e w1 ⟨rfl, hg1⟩; obtain ⟨n0, n1, n2, n3, nz, nn⟩ := new_four hg1; replace hgW := fresh_trans hgW hg1; obtain ⟨l1, l2, l3⟩ := ST.out _ hgW; have x0 := (hgW.cell (p := ⟨q, 0, none⟩) hq).trans c0; have hlt1 := lt_of nn; have hq1 := Nat.lt_trans hq hlt1; clear hg1 nn nz)
      go_region
      all_goals
        go_wp2_with fail
        go_ret; exact ⟨rfl, fresh_trans hgW (((Below.refl _ _).alloc (Nat.le_refl _) _).drew)⟩
  · rw [if_pos h1]
    have h2 : (er == 0) = false := by simpa using h1
    go_enter Try.func45, Try.ntmps45
    go_wp2_with (go_at_call 64; refine (B.out _).mono ?_; rintro e w1 ⟨rfl, hg1⟩; replace hgW := fresh_trans hgW hg1)
    go_ret; exact ⟨rfl, hgW⟩

/-- What is told, and the queue behind it. -/
def Did (v : Value) (st : St) (q : Nat) (O : Nat → Prop) (w : World) (e : Ending) (w' : World) : Prop := e = .returned v ∧ Qu w' q O st ∧ Same O w w'
def putS (st : St) (e : Ent) : St := if errPut st.es e = 0 then rise { st with es := insE e st.es } else st
theorem errPut_zero {es : List Ent} {e : Ent} (h : errPut es e = 0) : 0 ≤ e.id ∧ Vrun.cerr e.wt e.rm 0 = 0 ∧ named es e.id = false ∧ es.length < 128 := by
  unfold errPut at h
  split at h
  · cases h
  · split at h
    · rename_i h1; exact absurd h h1
    · split at h
      · cases h
      · split at h
        · cases h
        · rename_i a b c d
          exact ⟨by omega, by simpa using b, by simpa using c, by omega⟩
theorem put_nil (w : World) (e : Ent) : Calls Try.prog 30 #[.pointer none, e.val] w (Is (.int .i64 12) w) := by
  obtain ⟨ea, eb, ec, ed⟩ := e
  simp only [Ent.val]
  go_enter_defers Try.func30, Try.ntmps30
  go_wp2_with (go_at_call 44; refine (made_nil _).mono ?_; rintro e w1 ⟨rfl, rfl⟩)
  exact ⟨_, results_tmp rfl _ _ _, rfl, by go_grown⟩
set_option maxHeartbeats 2000000 in
theorem puts (w : World) (q : Nat) (O : Nat → Prop) (st : St) (e : Ent) (h : Qu w q O st) (hO : ∀ k, O k → k < w.heap.size) (hid : I64 e.id) (hw : 0 ≤ e.wt) (hr : 0 ≤ e.rm) (hl : st.es.length ≤ 500) :
    Calls Try.prog 30 #[.pointer (some ⟨q, 0, none⟩), e.val] w (Did (.int .i64 (errPut st.es e)) (putS st e) q O w) := by
  have H := Lib.hid (fun w' (g : Below w.heap.size w w') => h.fresh g)
  have M := Lib.hid (fun w' (g : Below w.heap.size w w') => made w' q O st (h.fresh g))
  have P := Lib.hid (fun w' (g : Below w.heap.size w w') => mayPuts w' q O st e (h.fresh g) hid hw hr hl)
  have hgW := (Below.refl w.heap.size w).alloc (Nat.le_refl _) (.cells #[.int .i64 e.id, .int .u64 e.wt, .int .i64 e.v, .int .u64 e.rm] 30)
  by_cases hz : errPut st.es e = 0
  · have LA := Lib.hid (fun w' (g : Below w.heap.size w w') => lays w' q O st e (h.fresh g) (fun k hk => Nat.lt_of_lt_of_le (hO k hk) g.size) hid (errPut_zero hz).2.2.1 hl)
    have RA := Lib.hid (fun w' u (h : Qu w' q O { st with es := insE e st.es }) hO => raises w' q O _ u h hO)
    have HO := Lib.hid hO
    rw [hz] at P
    unfold putS
    rw [if_pos hz, hz]
    clear h hz
    generalize ({ st with es := insE e st.es } : St) = st1 at *
    obtain ⟨ea, eb, ec, ed⟩ := e
    simp only [Ent.val] at *
    go_enter_defers Try.func30, Try.ntmps30
    go_wp2_with (first
      | (go_at_call 44; refine (M.out _ hgW).mono ?_; rintro e w1 ⟨rfl, rfl⟩)
      | (go_at_call 45; refine (P.out _ hgW).mono ?_; rintro e w1 ⟨rfl, hg1⟩; obtain ⟨n0, n1, n2, n3, nz, nn⟩ := new_four hg1; replace hgW := fresh_trans hgW hg1; clear hg1 nz nn)
      | (go_at_call 47; refine (LA.out _ hgW).mono ?_; rintro e w2 ⟨rfl, hq2, hs2⟩; have Q := Lib.hid hq2; have S := Lib.hid hs2; clear hq2 hs2))
    refine leaves_cons (f := 46) (args := #[.pointer (some ⟨q, 0, none⟩)]) (by simp) (by simp [go_sem]) ?_
    refine (RA.out _ .returning Q.out (fun k hk => Nat.lt_of_lt_of_le (HO.out k hk) (Nat.le_trans hgW.size S.out.size))).mono ?_
    rintro e u' w'' ⟨rfl, rfl, hq3, hs3⟩
    exact ⟨_, results_tmp rfl _ _ _, rfl, hq3, ((Same.of hgW HO.out).trans S.out).trans hs3⟩
  · have h2 : (errPut st.es e == 0) = false := by simpa using hz
    unfold putS
    rw [if_neg hz]
    clear h hz
    generalize errPut st.es e = er at *
    obtain ⟨ea, eb, ec, ed⟩ := e
    simp only [Ent.val] at *
    go_enter_defers Try.func30, Try.ntmps30
    go_wp2_with (first
      | (go_at_call 44; refine (M.out _ hgW).mono ?_; rintro e w1 ⟨rfl, rfl⟩)
      | (go_at_call 45; refine (P.out _ hgW).mono ?_; rintro e w1 ⟨rfl, hg1⟩; replace hgW := fresh_trans hgW hg1; clear hg1))
    exact ⟨_, results_tmp rfl _ _ _, rfl, H.out _ hgW, Same.of hgW hO⟩
end Go.Proofs.Yteoemafdknmklaa.Queue
