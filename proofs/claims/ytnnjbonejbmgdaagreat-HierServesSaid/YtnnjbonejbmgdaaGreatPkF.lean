/- What Load of package runq answers. Conditions: each weight is one that may be. -/
import Derived.Test.YtnnjbonejbmgdaaGreatPkE
import Derived.LoopTactic
import Derived.Deep.RegionHeld3
import Derived.Deep.AppendLies
namespace Go.Proofs.YtnnjbonejbmgdaaGreat.Queue
open Go.ChangeShapes Go.WideShapes Go.ChangeAt Go.RowKit Tree
set_option linter.unusedVariables false
set_option linter.unusedSimpArgs false
set_option maxRecDepth 100000

def total (es : List Ent) : Int := (es.map Ent.wt).sum
/-- The weights of those that are still to come. -/
def toCome (left : Lit → Bool) : List Ent → Int
  | [] => 0
  | e :: l => (if left (.int .i64 e.id) then e.wt else 0) + toCome left l
theorem toCome_none {left : Lit → Bool} (h : ∀ k, left k = false) (es : List Ent) : toCome left es = 0 := by
  induction es with
  | nil => rfl
  | cons e l ih => simp [toCome, h, ih]
theorem toCome_all {left : Lit → Bool} {es : List Ent} (h : ∀ e ∈ es, left (.int .i64 e.id) = true) : toCome left es = total es := by
  induction es with
  | nil => rfl
  | cons e l ih =>
    have := ih (fun x hx => h x (by simp [hx]))
    simp only [total, List.map_cons, List.sum_cons] at *
    simp only [toCome, h e (by simp), if_true, this]
theorem toCome_pos {left : Lit → Bool} {es : List Ent} (h : ∀ e ∈ es, 0 ≤ e.wt) : 0 ≤ toCome left es := by
  induction es with
  | nil => exact Int.le_refl _
  | cons e l ih =>
    have := ih (fun x hx => h x (by simp [hx]))
    have := h e (by simp)
    simp only [toCome]
    split <;> omega
theorem toCome_same {left left' : Lit → Bool} {es : List Ent} (h : ∀ e ∈ es, left (.int .i64 e.id) = left' (.int .i64 e.id)) : toCome left es = toCome left' es := by
  induction es with
  | nil => rfl
  | cons e l ih => simp only [toCome]; rw [h e (by simp), ih (fun x hx => h x (by simp [hx]))]
theorem toCome_strike {left : Lit → Bool} {es : List Ent} (ho : Once es) {e : Ent} (he : e ∈ es) (hl : left (.int .i64 e.id) = true) : toCome (fun z => left z && !z.sameKey (.int .i64 e.id)) es + e.wt = toCome left es := by
  induction es with
  | nil => simp at he
  | cons x l ih =>
    unfold Once at ho
    rw [List.pairwise_cons] at ho
    simp only [toCome]
    rcases List.mem_cons.1 he with rfl | he'
    · have : toCome (fun z => left z && !z.sameKey (.int .i64 e.id)) l = toCome left l := toCome_same fun y hy => by
        rw [Maps.sameKey_ne (keyNe (fun h => ho.1 y hy h.symm))]; simp
      simp only [this, hl, if_true]
      simp [Lit.sameKey]
      omega
    · have hne : x.id ≠ e.id := ho.1 e he'
      have := ih ho.2 he'
      simp only [Maps.sameKey_ne (keyNe hne), Bool.not_false, Bool.and_true]
      omega
theorem total_bd {es : List Ent} (h : ∀ e ∈ es, 0 ≤ e.wt ∧ e.wt ≤ 262144) : 0 ≤ total es ∧ total es ≤ 262144 * es.length := by
  induction es with
  | nil => simp [total]
  | cons e l ih =>
    have a := ih (fun x hx => h x (by simp [hx]))
    have b := h e (by simp)
    simp only [total, List.map_cons, List.sum_cons, List.length_cons] at *
    omega
def LoadI (w : World) (m r n : Nat) (D : DataW Unit) (es : List Ent) (s : Value) (wr : World) : Prop :=
  ∃ (left : Lit → Bool) (cnt : Nat) (sum : Int), s = .int .u64 sum ∧ wr.ranges Tryz.prog 3 entR m r n D left cnt ∧ 0 ≤ sum ∧ sum + toCome left es = total es ∧ Below w.heap.size w wr
set_option maxHeartbeats 2000000 in
theorem loads (w : World) (q : Nat) (O : Nat → Prop) (st : St) (h : Qu w q O st) (ho : Once st.es) (hw : ∀ e ∈ st.es, 0 ≤ e.wt ∧ e.wt ≤ 262144) (hl : st.es.length ≤ 500) :
    Calls Tryz.prog 61 #[.pointer (some ⟨q, 0, none⟩)] w (Is (.int .u64 (total st.es)) w) := by
  have M := Lib.hid (made w q O st h)
  obtain ⟨m, t, T, h⟩ := h
  obtain ⟨c0, c1, c2, c3, c4, fz⟩ := h.blk.cells
  obtain ⟨D, hown, hsz, hhas, hat⟩ := h.map
  have hml := h.map.lt
  have HH := Lib.hid hhas
  have HA := Lib.hid hat
  have hbd := total_bd hw
  have hwp : ∀ left, 0 ≤ toCome left st.es := fun left => toCome_pos fun e he => (hw e he).1
  clear h hhas hat
  generalize hes : st.es = es at *
  generalize es.length = len at *
  go_enter Tryz.func61, Tryz.ntmps61
  go_wp2_with (first
    | (go_at_call 105; refine (M.out).mono ?_; rintro e w1 ⟨rfl, rfl⟩)
    | (at_range; refine wpList_range_own _ rfl _ 133 rfl 3 34 law underMap entR m len D rfl hown ?_; intro w0 hrg0 hg0 hs0))
  go_frame
  go_loopw [3] (fun s wr => LoadI w m w.heap.size len D es s wr) (fun _ wr => wr.rangeLeft m w.heap.size)
  case atStart =>
    refine ⟨_, _, 0, rfl, hrg0, by omega, ?_, ⟨hg0.os, hg0.tape, hg0.output, hg0.size, fun b hb => hg0.block b hb (by simp)⟩⟩
    rw [toCome_all fun e he => by rw [HH.out]; exact List.any_eq_true.2 ⟨e, he, by simp⟩]
    omega
  case round =>
    obtain ⟨left, cnt, sum, rfl, hrg, hpos, hsum, hb⟩ := hrel
    clear hrg0 hg0 hs0
    have hb1 := hwp left
    go_wp2_with (at_next; refine wpList_next_ranges _ rfl _ rfl 3 law entR (Value.int .i64) Ent.val (fun key kl hk => by obtain ⟨x, rfl, _⟩ := Maps.keyOf_int_inv underInt hk; exact ⟨x, rfl⟩) (fun v y hv => by obtain ⟨e, rfl, _⟩ := entR_inv hv; exact ⟨e, rfl⟩) m w.heap.size len D left cnt rfl hrg ?_ ?_)
    · intro _ hl0
      go_wp2_with fail
      go_ret
      rw [toCome_none hl0] at hsum
      exact is_of (by rw [← hsum]; simp) hb
    · intro x c kl y1 y2 w1 cnt1 hkey hlk hv hat hrg1 hlt hg1 hs1 hen
      obtain ⟨x', ex, rfl, hwx⟩ := Maps.keyOf_int_inv underInt hkey
      cases ex
      have hnm : named es x = true := by rw [← HH.out]; exact Maps.has_true_of_atKey hat
      obtain ⟨f1, f2⟩ := find_of hnm
      obtain ⟨c', ec, ey⟩ := entR_inv hv
      have hce : c = find es x := by
        have e1 := HA.out _ f1 Ent.zero.datum
        rw [f2, hat] at e1
        have e2 : c.datum = (find es x).datum := by
          have : entR c.val = some (c.datum, []) := entR_mk c
          rw [hv] at this
          rw [← e1]
          exact (congrArg Prod.fst (Option.some.inj this)).symm
        exact datum_inj e2
      have hcm : c ∈ es := hce ▸ f1
      have hcx : c.id = x := by rw [hce]; exact f2
      have hst := toCome_strike ho hcm (left := left) (by rw [hcx]; exact hlk)
      rw [hcx] at hst
      have hcw := hw c hcm
      have hb2 := hwp (fun z => left z && !z.sameKey (.int .i64 x))
      clear hat hv hnm f1 f2 ec ey hce hcm hkey hlk
      have hb3 : Below w.heap.size w w1 := hb.trans ⟨hg1.os, hg1.tape, hg1.output, hg1.size, fun b hb' => hg1.block b (Nat.lt_of_lt_of_le hb' hb.size) (fun e => by cases e; omega)⟩
      have HB := Lib.hid hb3
      have HR := Lib.hid hrg1
      have HR0 := Lib.hid hrg
      have HL := Lib.hid hlt
      generalize hT : toCome (fun z => left z && !z.sameKey (.int .i64 x)) es = tc at *
      have HT := Lib.hid hT
      clear hb3 hrg1 hrg hT
      obtain ⟨ca, cb, cc, cd⟩ := c
      simp only [Ent.val] at *
      go_wp2_with fail
      refine ⟨⟨_, cnt1, sum + cb, rfl, HR.out.alloc _, by omega, by rw [HT.out]; omega, HB.out.alloc HB.out.size _⟩, ?_⟩
      rw [(HR.out.alloc _).left_eq, HR0.out.left_eq]
      exact HL.out
end Go.Proofs.YtnnjbonejbmgdaaGreat.Queue

/- What Charge of package runq does. Conditions: each number is one of its kind. -/
namespace Go.Proofs.YtnnjbonejbmgdaaGreat.Queue
open Go.ChangeShapes Go.WideShapes Go.ChangeAt Go.RowKit Tree
set_option linter.unusedVariables false
set_option linter.unusedSimpArgs false
set_option maxRecDepth 100000

/-- A queue whose numbers are of their kinds, each entity once. -/
structure Sound (st : St) : Prop where
  once : Once st.es
  each : ∀ e ∈ st.es, 0 ≤ e.id ∧ e.id ≤ 9223372036854775807 ∧ 2 ≤ e.wt ∧ e.wt ≤ 262144 ∧ 0 ≤ e.rm ∧ e.rm < e.wt ∧ I64 e.v
  few : st.es.length ≤ 128
  cur : I64 st.cur
  min : I64 st.min

theorem Qu.away {w : World} {q : Nat} {O : Nat → Prop} {st : St} (h : Qu w q O st) {p : Addr} (hp : O p.block) (u : Value) : Qu (w.setCell p u) q O st := by
  obtain ⟨m, t, T, h⟩ := h
  refine ⟨m, t, T, h.blk.on (Below.heap_setCell _ _ _ _ (fun e => h.oq (e ▸ hp))), h.map.on (Below.heap_setCell _ _ _ _ (fun e => h.om (e ▸ hp))), kept_on h.kept fun b hb => Below.heap_setCell _ _ _ _ (fun e => h.kept.apart b hb (.inl (e ▸ hp))), h.keys, h.oq, h.om, h.qm⟩
theorem Qu.setFlag {w : World} {q : Nat} {O : Nat → Prop} {st : St} (h : Qu w q O st) (x : Bool) : Qu (w.setCell ⟨q, 4, none⟩ (.bool x)) q O { st with flag := x } := by
  obtain ⟨m, t, T, h⟩ := h
  exact ⟨m, t, T, h.blk.setFlag x, h.map.on (Below.heap_setCell _ _ _ _ (fun e => h.qm e.symm)), kept_on h.kept fun b hb => Below.heap_setCell _ _ _ _ (fun e => h.kept.apart b hb (.inr (.inl e))), h.keys, h.oq, h.om, h.qm⟩
theorem Qu.cells {w : World} {q : Nat} {O : Nat → Prop} {st : St} (h : Qu w q O st) : w.cell? ⟨q, 2, none⟩ = some (.int .i64 st.cur) ∧ w.cell? ⟨q, 3, none⟩ = some (.int .i64 st.min) ∧ w.cell? ⟨q, 4, none⟩ = some (.bool st.flag) ∧ (∀ j, w.frozen? ⟨q, j, none⟩ = false) := by
  obtain ⟨m, t, T, h⟩ := h
  obtain ⟨c0, c1, c2, c3, c4, fz⟩ := h.blk.cells
  exact ⟨c2, c3, c4, fz⟩

theorem size_setCell (w : World) (a : Addr) (v : Value) : (w.setCell a v).heap.size = w.heap.size := by simp [World.setCell]
def errCharge (st : St) (ns : Int) : Int := if named st.es st.cur then Vrun.cerr (find st.es st.cur).wt (find st.es st.cur).rm ns else 7
/-- An entity that was served. -/
def served (e : Ent) (ns : Int) : Ent := { e with v := Fix.ends (e.v + Vrun.cval e.wt e.rm ns), rm := Vrun.crem e.wt e.rm ns }
def over (e : Ent) (ns : Int) : Bool := !Fix.fits (e.v + Vrun.cval e.wt e.rm ns)
def chargeS (st : St) (ns : Int) : St := if errCharge st ns = 0 then rise { st with es := insE (served (find st.es st.cur) ns) (drop st.es st.cur), flag := st.flag || over (find st.es st.cur) ns } else st

set_option maxHeartbeats 4000000 in
theorem charges_err (w : World) (q : Nat) (O : Nat → Prop) (st : St) (ns : Int) (h : Qu w q O st) (hO : ∀ k, O k → k < w.heap.size) (hs : Sound st) (hn : 0 ≤ ns) (hz : errCharge st ns ≠ 0) :
    Calls Tryz.prog 64 #[.pointer (some ⟨q, 0, none⟩), .int .u64 ns] w (Did (.int .i64 (errCharge st ns)) st q O w) := by
  have H := Lib.hid (fun w' (g : Below w.heap.size w w') => h.fresh g)
  have M := Lib.hid (made w q O st h)
  have F := Lib.hid (finds w q O st st.cur h hs.cur)
  obtain ⟨c2, c3, c4, fz⟩ := h.cells
  unfold errCharge at hz ⊢
  cases hnm : named st.es st.cur
  · simp only [hnm, Bool.false_eq_true, if_false] at F ⊢
    generalize find st.es st.cur = fe at *
    obtain ⟨fa, fb, fc, fd⟩ := fe
    simp only [Ent.val] at F
    generalize st.cur = cur at *
    clear h hz
    go_enter_defers Tryz.func64, Tryz.ntmps64
    go_wp2_with (first
      | (go_at_call 105; refine (M.out).mono ?_; rintro e w1 ⟨rfl, rfl⟩)
      | (go_at_call 109; refine (F.out).mono ?_; rintro e w1 ⟨rfl, hg1⟩))
    have hg2 := fresh_trans hg1 ((Below.refl _ w1).alloc (Nat.le_refl _) (.cells #[.int .i64 fa, .int .u64 fb, .int .i64 fc, .int .u64 fd] 34))
    exact ⟨_, results_tmp rfl _ _ _, rfl, H.out _ hg2, Same.of hg2 hO⟩
  · simp only [hnm, if_true] at F hz ⊢
    obtain ⟨f1, f2⟩ := find_of hnm
    have he := hs.each _ f1
    have C := Lib.hid (fun w => Vrun.charge (find st.es st.cur).wt (find st.es st.cur).rm ns w (by omega) (by omega) hn)
    generalize find st.es st.cur = fe at *
    have h2 : (Vrun.cerr fe.wt fe.rm ns == 0) = false := by simpa using hz
    generalize Vrun.cval fe.wt fe.rm ns = cv at *
    generalize Vrun.crem fe.wt fe.rm ns = cr at *
    generalize Vrun.cerr fe.wt fe.rm ns = ce at *
    obtain ⟨fa, fb, fc, fd⟩ := fe
    simp only [Ent.val] at F C
    generalize st.cur = cur at *
    clear h hz he f1 f2 hs
    go_enter_defers Tryz.func64, Tryz.ntmps64
    go_wp2_with (first
      | (go_at_call 105; refine (M.out).mono ?_; rintro e w1 ⟨rfl, rfl⟩)
      | (go_at_call 109; refine (F.out).mono ?_; rintro e w1 ⟨rfl, hg1⟩)
      | (go_at_call 110; refine (C.out _).mono ?_; rintro e w2 ⟨rfl, hg2⟩))
    have hg3 := fresh_trans (fresh_trans hg1 ((Below.refl _ w1).alloc (Nat.le_refl _) (.cells #[.int .i64 fa, .int .u64 fb, .int .i64 fc, .int .u64 fd] 34))) hg2
    exact ⟨_, results_tmp rfl _ _ _, rfl, H.out _ hg3, Same.of hg3 hO⟩
set_option maxHeartbeats 4000000 in
theorem charges_ok (w : World) (q : Nat) (O : Nat → Prop) (st : St) (ns : Int) (h : Qu w q O st) (hO : ∀ k, O k → k < w.heap.size) (hs : Sound st) (hn : 0 ≤ ns) (hz : errCharge st ns = 0) :
    Calls Tryz.prog 64 #[.pointer (some ⟨q, 0, none⟩), .int .u64 ns] w (Did (.int .i64 0) (chargeS st ns) q O w) := by
  have hnm : named st.es st.cur = true := by
    unfold errCharge at hz
    cases hh : named st.es st.cur
    · rw [hh] at hz; simp at hz
    · rfl
  have hce : Vrun.cerr (find st.es st.cur).wt (find st.es st.cur).rm ns = 0 := by unfold errCharge at hz; rw [hnm] at hz; simpa using hz
  obtain ⟨f1, f2⟩ := find_of hnm
  have he := hs.each _ f1
  have M := Lib.hid (made w q O st h)
  have F := Lib.hid (finds w q O st st.cur h hs.cur)
  rw [hnm] at F
  have C := Lib.hid (fun w => Vrun.charge (find st.es st.cur).wt (find st.es st.cur).rm ns w (by omega) (by omega) hn)
  rw [hce] at C
  have hcv : I64 (Vrun.cval (find st.es st.cur).wt (find st.es st.cur).rm ns) := by
    have hns : ns ≤ 1000000000 := by
      unfold Vrun.cerr at hce
      split at hce
      · cases hce
      · split at hce
        · cases hce
        · split at hce
          · cases hce
          · omega
    rw [Vrun.cval_in (by omega) (by omega) (by omega) hns]
    have := Vrun.quot_bd (x := (find st.es st.cur).wt) (r := (find st.es st.cur).rm) (t := ns) (by omega) (by omega) (by omega) (by omega) hn hns
    unfold I64
    omega
  have hid : I64 (find st.es st.cur).id := by unfold I64; omega
  have DE : Hid (∀ w1 w2, Below w.heap.size w w1 → Below w1.heap.size w1 w2 → w1.heap.size < w2.heap.size → Calls Tryz.prog 112 #[.pointer (some ⟨q, 0, none⟩), (find st.es st.cur).val] w2 (Goes { st with es := drop st.es st.cur } q (fun k => O k ∨ k = w1.heap.size) w2)) := by
    intro w1 w2 g1 g2 hlt
    have h1 : Qu w1 q (fun k => O k ∨ k = w1.heap.size) st := (h.fresh g1).other (fun k hk => hk.imp id (fun e => by omega))
    have := dels w2 q (fun k => O k ∨ k = w1.heap.size) st (find st.es st.cur) (h1.fresh g2) (by rintro k (hk | rfl); exact Nat.lt_of_lt_of_le (hO k hk) (Nat.le_trans g1.size g2.size); exact hlt) hid hs.once f1 (by have := hs.few; omega)
    rw [f2] at this
    exact this
  have AD := Lib.hid (fun w => Fix.add (find st.es st.cur).v (Vrun.cval (find st.es st.cur).wt (find st.es st.cur).rm ns) w he.2.2.2.2.2.2 hcv)
  have SA := Lib.hid (fun w => Fix.sat (find st.es st.cur).v (Vrun.cval (find st.es st.cur).wt (find st.es st.cur).rm ns) w he.2.2.2.2.2.2 hcv)
  have LA := Lib.hid (fun w' b (h' : Qu w' q (fun k => O k ∨ k = b) { st with es := drop st.es st.cur, flag := st.flag || over (find st.es st.cur) ns }) hO' => lays w' q (fun k => O k ∨ k = b) _ (served (find st.es st.cur) ns) h' hO' hid (by show named (drop st.es st.cur) (find st.es st.cur).id = false; rw [named_drop, f2]; simp) (by
    have : (drop st.es st.cur).length ≤ st.es.length := List.length_filter_le _ _
    have := hs.few
    show (drop st.es st.cur).length ≤ 500
    omega))
  unfold chargeS
  rw [if_pos hz]
  obtain ⟨c2, c3, c4, fz⟩ := h.cells
  have hq := h.lt
  simp only [served] at *
  unfold over at *
  cases hf : Fix.fits ((find st.es st.cur).v + Vrun.cval (find st.es st.cur).wt (find st.es st.cur).rm ns)
  all_goals
    rw [hf] at AD LA
    simp only [Bool.not_true, Bool.not_false, Bool.or_true, Bool.or_false] at LA ⊢
    clear h hz hnm hce f1 f2 he hcv hid hf hs
  · generalize find st.es st.cur = fe at *
    generalize Fix.ends (fe.v + Vrun.cval fe.wt fe.rm ns) = nv at *
    generalize Fix.only (fe.v + Vrun.cval fe.wt fe.rm ns) = ov at *
    generalize Vrun.cval fe.wt fe.rm ns = cv at *
    generalize Vrun.crem fe.wt fe.rm ns = cr at *
    obtain ⟨fa, fb, fc, fd⟩ := fe
    simp only [Ent.val] at *
    generalize hcu : st.cur = cur at *
    · go_enter_defers Tryz.func64, Tryz.ntmps64
      go_wp2_with (first
        | (go_at_call 105; refine (M.out).mono ?_; rintro e w1 ⟨rfl, rfl⟩)
        | (go_at_call 109; refine (F.out).mono ?_; rintro e w1 ⟨rfl, hg1⟩)
        | (go_at_call 110; refine (C.out _).mono ?_; rintro e w2 ⟨rfl, hg2⟩; obtain ⟨n0, n1, n2, n3, nz, nn⟩ := new_four hg2; have hgW := fresh_trans ((Below.refl _ w1).alloc (Nat.le_refl _) _) hg2; clear hg2 nz)
        | (go_at_call 112; refine (DE.out w1 w2 hg1 hgW (lt_of nn)).mono ?_; rintro e w3 ⟨rfl, hq3, hs3⟩; have nn3 := (hs3.block w1.heap.size (.inr rfl)).trans nn; have m0 := cell_of_row w3 _ 0 _ _ _ nn3; have m1 := cell_of_row w3 _ 1 _ _ _ nn3; have m2 := cell_of_row w3 _ 2 _ _ _ nn3; have m3 := cell_of_row w3 _ 3 _ _ _ nn3; have hx3 := lt_of nn3; obtain ⟨p2, p3, p4, pf⟩ := hq3.cells; have hqx : ¬ q = w1.heap.size := (by have := hg1.size; omega); have hxq : ¬ w1.heap.size = q := (by omega); have Q3 := Lib.hid hq3; have S3 := Lib.hid hs3; clear hq3 hs3)
        | (go_at_call 113; refine (AD.out _).mono ?_; rintro e w4 ⟨rfl, rfl⟩)
        | (go_at_call 114; refine (SA.out _).mono ?_; rintro e w5 ⟨rfl, hg5⟩; have hx4 : w1.heap.size < (w3.setCell ⟨q, 4, none⟩ (.bool true)).heap.size := (by simpa only [size_setCell] using hx3); have nn4 : (w3.setCell ⟨q, 4, none⟩ (.bool true)).heap[w1.heap.size]? = _ := (Below.heap_setCell _ _ _ _ (by simpa using hxq)).trans nn3; have y0 := (hg5.cell (p := ⟨w1.heap.size, 0, none⟩) hx4).trans (cell_of_row _ _ 0 _ _ _ nn4); have y1 := (hg5.cell (p := ⟨w1.heap.size, 1, none⟩) hx4).trans (cell_of_row _ _ 1 _ _ _ nn4); have y2 := (hg5.cell (p := ⟨w1.heap.size, 2, none⟩) hx4).trans (cell_of_row _ _ 2 _ _ _ nn4); have y3 := (hg5.cell (p := ⟨w1.heap.size, 3, none⟩) hx4).trans (cell_of_row _ _ 3 _ _ _ nn4); have yf : ∀ j, w5.frozen? ⟨w1.heap.size, j, none⟩ = false := fun j => (hg5.frozen (p := ⟨w1.heap.size, j, none⟩) hx4).trans (frozen_of_row _ _ j _ _ nn4))
        | (go_at_call 115; refine (LA.out _ _ ((((Q3.out.setFlag true).fresh hg5).away (p := ⟨w1.heap.size, 2, none⟩) (.inr rfl) _).away (p := ⟨w1.heap.size, 3, none⟩) (.inr rfl) _) ?_).mono ?_; (intro k hk; have k1 := hg5.size; simp only [size_setCell] at k1 ⊢; rcases hk with hk | rfl; (have k2 := hO k hk; have k3 := hg1.size; omega); omega); rintro e w7 ⟨rfl, hq7, hs7⟩; have Q7 := Lib.hid hq7; have S7 := Lib.hid hs7; clear hq7 hs7))
      have ne1 : ¬ O w1.heap.size := fun e => by have := hO _ e; have := hg1.size; omega
      have nq : ¬ O q := fun e => Q3.out.out (.inl e)
      have hO3 : ∀ k, O k → k < w3.heap.size := fun k hk => Nat.lt_of_lt_of_le (hO k hk) (Nat.le_trans hg1.size (Nat.le_trans hgW.size S3.out.size))
      have SS : Same O w2 w7 := (((((S3.out.mono (fun k hk => .inl hk)).trans (Same.setCell (p := ⟨q, 4, none⟩) nq _)).trans (Same.of hg5 (fun k hk => by rw [size_setCell]; exact hO3 k hk))).trans (Same.setCell (p := ⟨w1.heap.size, 2, none⟩) ne1 _)).trans (Same.setCell (p := ⟨w1.heap.size, 3, none⟩) ne1 _)).trans (S7.out.mono (fun k hk => .inl hk))
      have hsz : w.heap.size ≤ w7.heap.size := Nat.le_trans hg1.size (Nat.le_trans hgW.size SS.size)
      refine leaves_cons (f := 111) (args := #[.pointer (some ⟨q, 0, none⟩)]) (by simp) (by simp [go_sem]) ?_
      refine (raises w7 q (fun k => O k ∨ k = w1.heap.size) _ .returning Q7.out ?_).mono ?_
      · rintro k (hk | rfl)
        · exact Nat.lt_of_lt_of_le (hO k hk) hsz
        · exact Nat.lt_of_lt_of_le (lt_of nn) SS.size
      · rintro e u' w8 ⟨rfl, rfl, hq8, hs8⟩
        exact ⟨_, results_tmp rfl _ _ _, rfl, hq8.other (fun k hk => .inl (.inl hk)), ((Same.of (fresh_trans hg1 hgW) hO).trans SS).trans (hs8.mono (fun k hk => .inl hk))⟩
  · generalize find st.es st.cur = fe at *
    generalize Fix.ends (fe.v + Vrun.cval fe.wt fe.rm ns) = nv at *
    generalize Fix.only (fe.v + Vrun.cval fe.wt fe.rm ns) = ov at *
    generalize Vrun.cval fe.wt fe.rm ns = cv at *
    generalize Vrun.crem fe.wt fe.rm ns = cr at *
    obtain ⟨fa, fb, fc, fd⟩ := fe
    simp only [Ent.val] at *
    generalize hcu : st.cur = cur at *
    · go_enter_defers Tryz.func64, Tryz.ntmps64
      go_wp2_with (first
        | (go_at_call 105; refine (M.out).mono ?_; rintro e w1 ⟨rfl, rfl⟩)
        | (go_at_call 109; refine (F.out).mono ?_; rintro e w1 ⟨rfl, hg1⟩)
        | (go_at_call 110; refine (C.out _).mono ?_; rintro e w2 ⟨rfl, hg2⟩; obtain ⟨n0, n1, n2, n3, nz, nn⟩ := new_four hg2; have hgW := fresh_trans ((Below.refl _ w1).alloc (Nat.le_refl _) _) hg2; clear hg2 nz)
        | (go_at_call 112; refine (DE.out w1 w2 hg1 hgW (lt_of nn)).mono ?_; rintro e w3 ⟨rfl, hq3, hs3⟩; have nn3 := (hs3.block w1.heap.size (.inr rfl)).trans nn; have m0 := cell_of_row w3 _ 0 _ _ _ nn3; have m1 := cell_of_row w3 _ 1 _ _ _ nn3; have m2 := cell_of_row w3 _ 2 _ _ _ nn3; have m3 := cell_of_row w3 _ 3 _ _ _ nn3; have hx3 := lt_of nn3; obtain ⟨p2, p3, p4, pf⟩ := hq3.cells; have hqx : ¬ q = w1.heap.size := (by have := hg1.size; omega); have hxq : ¬ w1.heap.size = q := (by omega); have Q3 := Lib.hid hq3; have S3 := Lib.hid hs3; clear hq3 hs3)
        | (go_at_call 113; refine (AD.out _).mono ?_; rintro e w4 ⟨rfl, rfl⟩)
        | (go_at_call 114; refine (SA.out _).mono ?_; rintro e w5 ⟨rfl, hg5⟩; have y0 := (hg5.cell (p := ⟨w1.heap.size, 0, none⟩) hx3).trans m0; have y1 := (hg5.cell (p := ⟨w1.heap.size, 1, none⟩) hx3).trans m1; have y2 := (hg5.cell (p := ⟨w1.heap.size, 2, none⟩) hx3).trans m2; have y3 := (hg5.cell (p := ⟨w1.heap.size, 3, none⟩) hx3).trans m3; have yf : ∀ j, w5.frozen? ⟨w1.heap.size, j, none⟩ = false := fun j => (hg5.frozen (p := ⟨w1.heap.size, j, none⟩) hx3).trans (frozen_of_row w3 _ j _ _ nn3))
        | (go_at_call 115; refine (LA.out _ _ (((Q3.out.fresh hg5).away (p := ⟨w1.heap.size, 2, none⟩) (.inr rfl) _).away (p := ⟨w1.heap.size, 3, none⟩) (.inr rfl) _) ?_).mono ?_; (intro k hk; have k1 := hg5.size; simp only [size_setCell] at k1 ⊢; rcases hk with hk | rfl; (have k2 := hO k hk; have k3 := hg1.size; omega); omega); rintro e w7 ⟨rfl, hq7, hs7⟩; have Q7 := Lib.hid hq7; have S7 := Lib.hid hs7; clear hq7 hs7))
      have ne1 : ¬ O w1.heap.size := fun e => by have := hO _ e; have := hg1.size; omega
      have hO3 : ∀ k, O k → k < w3.heap.size := fun k hk => Nat.lt_of_lt_of_le (hO k hk) (Nat.le_trans hg1.size (Nat.le_trans hgW.size S3.out.size))
      have SS : Same O w2 w7 := ((((S3.out.mono (fun k hk => .inl hk)).trans (Same.of hg5 hO3)).trans (Same.setCell (p := ⟨w1.heap.size, 2, none⟩) ne1 _)).trans (Same.setCell (p := ⟨w1.heap.size, 3, none⟩) ne1 _)).trans (S7.out.mono (fun k hk => .inl hk))
      have hsz : w.heap.size ≤ w7.heap.size := Nat.le_trans hg1.size (Nat.le_trans hgW.size SS.size)
      refine leaves_cons (f := 111) (args := #[.pointer (some ⟨q, 0, none⟩)]) (by simp) (by simp [go_sem]) ?_
      refine (raises w7 q (fun k => O k ∨ k = w1.heap.size) _ .returning Q7.out ?_).mono ?_
      · rintro k (hk | rfl)
        · exact Nat.lt_of_lt_of_le (hO k hk) hsz
        · exact Nat.lt_of_lt_of_le (lt_of nn) SS.size
      · rintro e u' w8 ⟨rfl, rfl, hq8, hs8⟩
        exact ⟨_, results_tmp rfl _ _ _, rfl, hq8.other (fun k hk => .inl (.inl hk)), ((Same.of (fresh_trans hg1 hgW) hO).trans SS).trans (hs8.mono (fun k hk => .inl hk))⟩
theorem charges (w : World) (q : Nat) (O : Nat → Prop) (st : St) (ns : Int) (h : Qu w q O st) (hO : ∀ k, O k → k < w.heap.size) (hs : Sound st) (hn : 0 ≤ ns) :
    Calls Tryz.prog 64 #[.pointer (some ⟨q, 0, none⟩), .int .u64 ns] w (Did (.int .i64 (errCharge st ns)) (chargeS st ns) q O w) := by
  by_cases hz : errCharge st ns = 0
  · rw [hz]; exact charges_ok w q O st ns h hO hs hn hz
  · rw [show chargeS st ns = st by unfold chargeS; rw [if_neg hz]]; exact charges_err w q O st ns h hO hs hn hz
end Go.Proofs.YtnnjbonejbmgdaaGreat.Queue

/- What Drop of package runq does. Conditions: each number is one of its kind. -/
namespace Go.Proofs.YtnnjbonejbmgdaaGreat.Queue
open Go.ChangeShapes Go.WideShapes Go.ChangeAt Go.RowKit Tree
set_option linter.unusedVariables false
set_option linter.unusedSimpArgs false
set_option maxRecDepth 100000

def dropS (st : St) (id : Int) : St := if named st.es id then rise { st with es := drop st.es id, cur := if st.cur = id then -1 else st.cur } else st
def errDrop (st : St) (id : Int) : Int := if named st.es id then 0 else 12
abbrev Z4 : Obj := .cells #[.int .i64 0, .int .u64 0, .int .i64 0, .int .u64 0] 34
set_option maxHeartbeats 4000000 in
theorem drops_not (w : World) (q : Nat) (O : Nat → Prop) (st : St) (id : Int) (h : Qu w q O st) (hO : ∀ k, O k → k < w.heap.size) (hid : I64 id) (hn : named st.es id = false) :
    Calls Tryz.prog 71 #[.pointer (some ⟨q, 0, none⟩), .int .i64 id] w (Did (.tuple #[Ent.zero.val, .int .i64 12]) st q O w) := by
  have H := Lib.hid (fun w' (g : Below w.heap.size w w') => h.fresh g)
  have F := Lib.hid (fun w' (g : Below w.heap.size w w') => finds w' q O st id (h.fresh g) hid)
  rw [hn, find_not hn] at F
  simp only [Ent.val, Ent.zero] at *
  have hg0 := (Below.refl w.heap.size w).alloc (Nat.le_refl _) Z4
  clear h
  go_enter_defers Tryz.func71, Tryz.ntmps71
  go_wp2_with (go_at_call 109; refine (F.out _ hg0).mono ?_; rintro e w1 ⟨rfl, hg1⟩; obtain ⟨n0, n1, n2, n3, nz, nn⟩ := new_four hg1; replace hg0 := fresh_trans hg0 hg1; have hl := lt_of nn; clear hg1 nn)
  have hs := hg0.size
  have k0 : ((((w1.setCell ⟨w.heap.size, 0, none⟩ (.int .i64 0)).setCell ⟨w.heap.size, 1, none⟩ (.int .u64 0)).setCell ⟨w.heap.size, 2, none⟩ (.int .i64 0)).setCell ⟨w.heap.size, 3, none⟩ (.int .u64 0)).cell? ⟨w.heap.size, 0, none⟩ = some (.int .i64 0) := by go_simp
  have k1 : ((((w1.setCell ⟨w.heap.size, 0, none⟩ (.int .i64 0)).setCell ⟨w.heap.size, 1, none⟩ (.int .u64 0)).setCell ⟨w.heap.size, 2, none⟩ (.int .i64 0)).setCell ⟨w.heap.size, 3, none⟩ (.int .u64 0)).cell? ⟨w.heap.size, 1, none⟩ = some (.int .u64 0) := by go_simp
  have k2 : ((((w1.setCell ⟨w.heap.size, 0, none⟩ (.int .i64 0)).setCell ⟨w.heap.size, 1, none⟩ (.int .u64 0)).setCell ⟨w.heap.size, 2, none⟩ (.int .i64 0)).setCell ⟨w.heap.size, 3, none⟩ (.int .u64 0)).cell? ⟨w.heap.size, 2, none⟩ = some (.int .i64 0) := by go_simp
  have k3 : ((((w1.setCell ⟨w.heap.size, 0, none⟩ (.int .i64 0)).setCell ⟨w.heap.size, 1, none⟩ (.int .u64 0)).setCell ⟨w.heap.size, 2, none⟩ (.int .i64 0)).setCell ⟨w.heap.size, 3, none⟩ (.int .u64 0)).cell? ⟨w.heap.size, 3, none⟩ = some (.int .u64 0) := by go_simp
  have hgf : Below w.heap.size w (((((w1.setCell ⟨w.heap.size, 0, none⟩ (.int .i64 0)).setCell ⟨w.heap.size, 1, none⟩ (.int .u64 0)).setCell ⟨w.heap.size, 2, none⟩ (.int .i64 0)).setCell ⟨w.heap.size, 3, none⟩ (.int .u64 0)).alloc Z4) := ((((hg0.setCell (Nat.le_refl _) _).setCell (Nat.le_refl _) _).setCell (Nat.le_refl _) _).setCell (Nat.le_refl _) _).alloc (by simpa [World.setCell] using hs) _
  exact ⟨.tuple #[.agg #[.int .i64 0, .int .u64 0, .int .i64 0, .int .u64 0], .int .i64 12], by simp [results, Tryz.results71, go_sem, cell_alloc k0, cell_alloc k1, cell_alloc k2, cell_alloc k3], rfl, H.out _ hgf, Same.of hgf hO⟩
set_option maxHeartbeats 4000000 in
theorem drops_is (w : World) (q : Nat) (O : Nat → Prop) (st : St) (id : Int) (h : Qu w q O st) (hO : ∀ k, O k → k < w.heap.size) (hs : Sound st) (hid : I64 id) (hn : named st.es id = true) :
    Calls Tryz.prog 71 #[.pointer (some ⟨q, 0, none⟩), .int .i64 id] w (Did (.tuple #[(find st.es id).val, .int .i64 0]) (rise { st with es := drop st.es id, cur := if st.cur = id then -1 else st.cur }) q O w) := by
  have F := Lib.hid (fun w' (g : Below w.heap.size w w') => finds w' q O st id (h.fresh g) hid)
  rw [hn] at F
  obtain ⟨f1, f2⟩ := find_of hn
  have he := hs.each _ f1
  have hq := h.lt
  have DE : Hid (∀ w1 w2, Below w.heap.size w w1 → w.heap.size < w1.heap.size → Below w1.heap.size w1 w2 → w1.heap.size < w2.heap.size → Calls Tryz.prog 112 #[.pointer (some ⟨q, 0, none⟩), (find st.es id).val] w2 (Goes { st with es := drop st.es id } q (fun k => O k ∨ k = w.heap.size ∨ k = w1.heap.size) w2)) := by
    intro w1 w2 g1 hl g2 hlt
    have h0 : Qu w q (fun k => O k ∨ k = w.heap.size) st := h.other (fun k hk => hk.imp (fun e => e) (fun e => by omega))
    have h1 : Qu w1 q (fun k => O k ∨ k = w.heap.size ∨ k = w1.heap.size) st := (h0.fresh g1).other (fun k hk => by
      rcases hk with e | e | e
      · exact .inl (.inl e)
      · exact .inl (.inr e)
      · exact .inr (by omega))
    have := dels w2 q (fun k => O k ∨ k = w.heap.size ∨ k = w1.heap.size) st (find st.es id) (h1.fresh g2) (by
      have s1 := g1.size
      have s2 := g2.size
      rintro k (hk | rfl | rfl)
      · have := hO k hk; omega
      · omega
      · exact hlt) (by unfold I64; omega) hs.once f1 (by have := hs.few; omega)
    rw [f2] at this
    exact this
  simp only [Ent.val] at *
  have hg0 := (Below.refl w.heap.size w).alloc (Nat.le_refl _) Z4
  generalize find st.es id = fe at *
  obtain ⟨fa, fb, fc, fd⟩ := fe
  clear h he f1 f2 hs
  simp only at *
  generalize hcu : st.cur = cur at *
  have RA := Lib.hid (fun w' O' c (h' : Qu w' q O' { st with es := drop st.es id, cur := c }) hO' => raises w' q O' _ .returning h' hO')
  by_cases hc : cur = id
  all_goals
    first
      | rw [if_pos hc]
      | rw [if_neg hc]
    have hcb : cur = id → (cur == id) = true := fun e => by simpa using e
    have hcc : ¬ cur = id → (cur == id) = false := fun e => by simpa using e
    go_enter_defers Tryz.func71, Tryz.ntmps71
    go_wp2_with fail
    refine (F.out _ hg0).mono ?_
    rintro e w1 ⟨rfl, hg1⟩
    obtain ⟨n0, n1, n2, n3, nz, nn⟩ := new_four hg1
    replace hg0 := fresh_trans hg0 hg1
    have hl := lt_of nn
    clear hg1
    go_wp2_with fail
    have hgb := (Below.refl w1.heap.size w1).alloc (Nat.le_refl _) (.cells #[.int .i64 fa, .int .u64 fb, .int .i64 fc, .int .u64 fd] 34)
    have nb : (w1.alloc (.cells #[.int .i64 fa, .int .u64 fb, .int .i64 fc, .int .u64 fd] 34)).heap[w1.heap.size]? = some (.cells #[.int .i64 fa, .int .u64 fb, .int .i64 fc, .int .u64 fd] 34 (0, 0)) := heap_alloc_new _ _
    refine (DE.out w1 _ hg0 hl hgb (lt_of nb)).mono ?_
    rintro e w3 ⟨rfl, hq3, hs3⟩
    have nn3 := ((hs3.block w.heap.size (.inr (.inl rfl))).trans (hgb.block w.heap.size hl)).trans nn
    have nb3 := (hs3.block w1.heap.size (.inr (.inr rfl))).trans nb
    have m0 := cell_of_row w3 _ 0 _ _ _ nb3
    have m1 := cell_of_row w3 _ 1 _ _ _ nb3
    have m2 := cell_of_row w3 _ 2 _ _ _ nb3
    have m3 := cell_of_row w3 _ 3 _ _ _ nb3
    have r0 := cell_of_row w3 _ 0 _ _ _ nn3
    have r1 := cell_of_row w3 _ 1 _ _ _ nn3
    have r2 := cell_of_row w3 _ 2 _ _ _ nn3
    have r3 := cell_of_row w3 _ 3 _ _ _ nn3
    have rf : ∀ j, w3.frozen? ⟨w.heap.size, j, none⟩ = false := fun j => frozen_of_row w3 _ j _ _ nn3
    obtain ⟨p2, p3, p4, pf⟩ := hq3.cells
    have hlx : ¬ w1.heap.size = w.heap.size := by omega
    have hxl : ¬ w.heap.size = w1.heap.size := by omega
    have hqx : ¬ q = w1.heap.size := by omega
    have hxq : ¬ w1.heap.size = q := by omega
    have hqr : ¬ q = w.heap.size := by omega
    have hrq : ¬ w.heap.size = q := by omega
    have Q3 := Lib.hid hq3
    have S3 := Lib.hid hs3
    have NN := Lib.hid nn3
    clear hq3 hs3 nn nb3 nn3 n0 n1 n2 n3 nz
    simp only [hcu] at p2
    go_wp2_with fail
    have ne1 : ¬ O w.heap.size := fun e => by have := hO _ e; omega
    have nq : ¬ O q := fun e => Q3.out.out (.inl e)
    have hs3 : w.heap.size ≤ w3.heap.size := Nat.le_trans hg0.size (Nat.le_trans hgb.size S3.out.size)
    have hbx : w1.heap.size < w3.heap.size := Nat.lt_of_lt_of_le (lt_of nb) S3.out.size
    have HO3 : Hid (∀ k, (O k ∨ k = w.heap.size ∨ k = w1.heap.size) → k < w3.heap.size) := by
      rintro k (hk | rfl | rfl)
      · have := hO k hk; omega
      · omega
      · exact hbx
    have SA : Hid (Same O w w3) := ((Same.of hg0 hO).trans (Same.of hgb (fun k hk => by have := hO k hk; omega))).trans (S3.out.mono (fun k hk => .inl hk))
    refine leaves_cons (f := 111) (args := #[.pointer (some ⟨q, 0, none⟩)]) (by simp) (by simp [go_sem]) ?_
    first
      | (have QV := Lib.hid (((((Q3.out.setCur (Below.refl _ w3) (-1)).away (p := ⟨w.heap.size, 0, none⟩) (.inr (.inl rfl)) (.int .i64 fa)).away (p := ⟨w.heap.size, 1, none⟩) (.inr (.inl rfl)) (.int .u64 fb)).away (p := ⟨w.heap.size, 2, none⟩) (.inr (.inl rfl)) (.int .i64 fc)).away (p := ⟨w.heap.size, 3, none⟩) (.inr (.inl rfl)) (.int .u64 fd))
         have SV : Hid (Same O w3 (((((w3.setCell ⟨q, 2, none⟩ (.int .i64 (-1))).setCell ⟨w.heap.size, 0, none⟩ (.int .i64 fa)).setCell ⟨w.heap.size, 1, none⟩ (.int .u64 fb)).setCell ⟨w.heap.size, 2, none⟩ (.int .i64 fc)).setCell ⟨w.heap.size, 3, none⟩ (.int .u64 fd))) := ((((Same.setCell (p := ⟨q, 2, none⟩) nq _).trans (Same.setCell (p := ⟨w.heap.size, 0, none⟩) ne1 _)).trans (Same.setCell (p := ⟨w.heap.size, 1, none⟩) ne1 _)).trans (Same.setCell (p := ⟨w.heap.size, 2, none⟩) ne1 _)).trans (Same.setCell (p := ⟨w.heap.size, 3, none⟩) ne1 _)
         have v0 : (((((w3.setCell ⟨q, 2, none⟩ (.int .i64 (-1))).setCell ⟨w.heap.size, 0, none⟩ (.int .i64 fa)).setCell ⟨w.heap.size, 1, none⟩ (.int .u64 fb)).setCell ⟨w.heap.size, 2, none⟩ (.int .i64 fc)).setCell ⟨w.heap.size, 3, none⟩ (.int .u64 fd)).cell? ⟨w.heap.size, 0, none⟩ = some (.int .i64 fa) := by go_simp
         have v1 : (((((w3.setCell ⟨q, 2, none⟩ (.int .i64 (-1))).setCell ⟨w.heap.size, 0, none⟩ (.int .i64 fa)).setCell ⟨w.heap.size, 1, none⟩ (.int .u64 fb)).setCell ⟨w.heap.size, 2, none⟩ (.int .i64 fc)).setCell ⟨w.heap.size, 3, none⟩ (.int .u64 fd)).cell? ⟨w.heap.size, 1, none⟩ = some (.int .u64 fb) := by go_simp
         have v2 : (((((w3.setCell ⟨q, 2, none⟩ (.int .i64 (-1))).setCell ⟨w.heap.size, 0, none⟩ (.int .i64 fa)).setCell ⟨w.heap.size, 1, none⟩ (.int .u64 fb)).setCell ⟨w.heap.size, 2, none⟩ (.int .i64 fc)).setCell ⟨w.heap.size, 3, none⟩ (.int .u64 fd)).cell? ⟨w.heap.size, 2, none⟩ = some (.int .i64 fc) := by go_simp
         have v3 : (((((w3.setCell ⟨q, 2, none⟩ (.int .i64 (-1))).setCell ⟨w.heap.size, 0, none⟩ (.int .i64 fa)).setCell ⟨w.heap.size, 1, none⟩ (.int .u64 fb)).setCell ⟨w.heap.size, 2, none⟩ (.int .i64 fc)).setCell ⟨w.heap.size, 3, none⟩ (.int .u64 fd)).cell? ⟨w.heap.size, 3, none⟩ = some (.int .u64 fd) := by go_simp
         refine (RA.out _ _ _ QV.out (fun k hk => by simp only [size_setCell]; exact HO3.out k hk)).mono ?_
         rintro e u' w8 ⟨rfl, rfl, hq8, hs8⟩
         have b8 := hs8.block w.heap.size (.inr (.inl rfl))
         exact ⟨.tuple #[.agg #[.int .i64 fa, .int .u64 fb, .int .i64 fc, .int .u64 fd], .int .i64 0], by simp [results, Tryz.results71, go_sem, (World.cell?_of_block (a := ⟨w.heap.size, 0, none⟩) b8).trans v0, (World.cell?_of_block (a := ⟨w.heap.size, 1, none⟩) b8).trans v1, (World.cell?_of_block (a := ⟨w.heap.size, 2, none⟩) b8).trans v2, (World.cell?_of_block (a := ⟨w.heap.size, 3, none⟩) b8).trans v3], rfl, hq8.other (fun k hk => .inl (.inl hk)), (SA.out.trans SV.out).trans (hs8.mono (fun k hk => .inl hk))⟩)
      | (have QV := Lib.hid ((((Q3.out.away (p := ⟨w.heap.size, 0, none⟩) (.inr (.inl rfl)) (.int .i64 fa)).away (p := ⟨w.heap.size, 1, none⟩) (.inr (.inl rfl)) (.int .u64 fb)).away (p := ⟨w.heap.size, 2, none⟩) (.inr (.inl rfl)) (.int .i64 fc)).away (p := ⟨w.heap.size, 3, none⟩) (.inr (.inl rfl)) (.int .u64 fd))
         have SV : Hid (Same O w3 ((((w3.setCell ⟨w.heap.size, 0, none⟩ (.int .i64 fa)).setCell ⟨w.heap.size, 1, none⟩ (.int .u64 fb)).setCell ⟨w.heap.size, 2, none⟩ (.int .i64 fc)).setCell ⟨w.heap.size, 3, none⟩ (.int .u64 fd))) := (((Same.setCell (p := ⟨w.heap.size, 0, none⟩) ne1 _).trans (Same.setCell (p := ⟨w.heap.size, 1, none⟩) ne1 _)).trans (Same.setCell (p := ⟨w.heap.size, 2, none⟩) ne1 _)).trans (Same.setCell (p := ⟨w.heap.size, 3, none⟩) ne1 _)
         have v0 : ((((w3.setCell ⟨w.heap.size, 0, none⟩ (.int .i64 fa)).setCell ⟨w.heap.size, 1, none⟩ (.int .u64 fb)).setCell ⟨w.heap.size, 2, none⟩ (.int .i64 fc)).setCell ⟨w.heap.size, 3, none⟩ (.int .u64 fd)).cell? ⟨w.heap.size, 0, none⟩ = some (.int .i64 fa) := by go_simp
         have v1 : ((((w3.setCell ⟨w.heap.size, 0, none⟩ (.int .i64 fa)).setCell ⟨w.heap.size, 1, none⟩ (.int .u64 fb)).setCell ⟨w.heap.size, 2, none⟩ (.int .i64 fc)).setCell ⟨w.heap.size, 3, none⟩ (.int .u64 fd)).cell? ⟨w.heap.size, 1, none⟩ = some (.int .u64 fb) := by go_simp
         have v2 : ((((w3.setCell ⟨w.heap.size, 0, none⟩ (.int .i64 fa)).setCell ⟨w.heap.size, 1, none⟩ (.int .u64 fb)).setCell ⟨w.heap.size, 2, none⟩ (.int .i64 fc)).setCell ⟨w.heap.size, 3, none⟩ (.int .u64 fd)).cell? ⟨w.heap.size, 2, none⟩ = some (.int .i64 fc) := by go_simp
         have v3 : ((((w3.setCell ⟨w.heap.size, 0, none⟩ (.int .i64 fa)).setCell ⟨w.heap.size, 1, none⟩ (.int .u64 fb)).setCell ⟨w.heap.size, 2, none⟩ (.int .i64 fc)).setCell ⟨w.heap.size, 3, none⟩ (.int .u64 fd)).cell? ⟨w.heap.size, 3, none⟩ = some (.int .u64 fd) := by go_simp
         refine (RA.out _ _ _ QV.out (fun k hk => by simp only [size_setCell]; exact HO3.out k hk)).mono ?_
         rintro e u' w8 ⟨rfl, rfl, hq8, hs8⟩
         have b8 := hs8.block w.heap.size (.inr (.inl rfl))
         exact ⟨.tuple #[.agg #[.int .i64 fa, .int .u64 fb, .int .i64 fc, .int .u64 fd], .int .i64 0], by simp [results, Tryz.results71, go_sem, (World.cell?_of_block (a := ⟨w.heap.size, 0, none⟩) b8).trans v0, (World.cell?_of_block (a := ⟨w.heap.size, 1, none⟩) b8).trans v1, (World.cell?_of_block (a := ⟨w.heap.size, 2, none⟩) b8).trans v2, (World.cell?_of_block (a := ⟨w.heap.size, 3, none⟩) b8).trans v3], rfl, hq8.other (fun k hk => .inl (.inl hk)), (SA.out.trans SV.out).trans (hs8.mono (fun k hk => .inl hk))⟩)
theorem dropss (w : World) (q : Nat) (O : Nat → Prop) (st : St) (id : Int) (h : Qu w q O st) (hO : ∀ k, O k → k < w.heap.size) (hs : Sound st) (hid : I64 id) :
    Calls Tryz.prog 71 #[.pointer (some ⟨q, 0, none⟩), .int .i64 id] w (Did (.tuple #[(find st.es id).val, .int .i64 (errDrop st id)]) (dropS st id) q O w) := by
  unfold errDrop dropS
  cases hn : named st.es id
  · rw [find_not hn]
    simp only [Bool.false_eq_true, if_false]
    exact drops_not w q O st id h hO hid hn
  · simp only [if_true]
    exact drops_is w q O st id h hO hs hid hn
end Go.Proofs.YtnnjbonejbmgdaaGreat.Queue

/- What is put, dropped, served and picked leaves a queue sound. Conditions: none. -/
namespace Go.Proofs.YtnnjbonejbmgdaaGreat.Queue
open Tree
set_option linter.unusedVariables false
set_option linter.unusedSimpArgs false

theorem cerr_zero {x r t : Int} (h : Vrun.cerr x r t = 0) : 2 ≤ x ∧ x ≤ 262144 ∧ r < x ∧ t ≤ 1000000000 := by
  unfold Vrun.cerr at h
  split at h
  · cases h
  · split at h
    · cases h
    · split at h
      · cases h
      · omega
theorem mem_insE {e x : Ent} {l : List Ent} : x ∈ insE e l ↔ x = e ∨ x ∈ l := by rw [(insE_perm e l).mem_iff]; simp
theorem mem_drop {es : List Ent} {id : Int} {x : Ent} : x ∈ drop es id ↔ x ∈ es ∧ x.id ≠ id := by unfold drop; rw [List.mem_filter]; simp
theorem len_insE (e : Ent) (l : List Ent) : (insE e l).length = l.length + 1 := by rw [(insE_perm e l).length_eq]; rfl
theorem Sound.new : Sound St.new := ⟨List.Pairwise.nil, fun e he => by simp [St.new] at he, by simp [St.new], by simp [St.new, I64], by simp [St.new, I64]⟩
theorem rise_es (st : St) : (rise st).es = st.es := by unfold rise; split <;> simp_all
theorem rise_cur (st : St) : (rise st).cur = st.cur := by unfold rise; split <;> rfl
theorem rise_flag (st : St) : (rise st).flag = st.flag := by unfold rise; split <;> rfl
theorem rise_min (st : St) : st.min ≤ (rise st).min := by unfold rise; split <;> simp <;> omega
theorem Sound.rise {st : St} (h : Sound st) : Sound (rise st) := by
  refine ⟨by rw [rise_es]; exact h.once, by rw [rise_es]; exact h.each, by rw [rise_es]; exact h.few, by rw [rise_cur]; exact h.cur, ?_⟩
  unfold Queue.rise
  split
  · exact h.min
  · rename_i e l he
    have a := h.min
    have b := (h.each e (by rw [he]; simp)).2.2.2.2.2.2
    unfold I64 at *
    simp only
    omega
theorem Sound.put {st : St} (h : Sound st) {e : Ent} (hid : I64 e.id) (hv : I64 e.v) (hr : 0 ≤ e.rm) : Sound (putS st e) := by
  unfold putS
  split
  · rename_i hz
    obtain ⟨z1, z2, z3, z4⟩ := errPut_zero hz
    obtain ⟨c1, c2, c3, _⟩ := cerr_zero z2
    refine Sound.rise ⟨once_ins h.once z3, ?_, by simp only [len_insE]; omega, h.cur, h.min⟩
    intro x hx
    rcases mem_insE.1 hx with rfl | hx
    · unfold I64 at hid
      exact ⟨z1, hid.2, c1, c2, hr, c3, hv⟩
    · exact h.each x hx
  · exact h
theorem Sound.drop {st : St} (h : Sound st) {id : Int} : Sound (dropS st id) := by
  unfold dropS
  split
  · rename_i hn
    have hl : (Queue.drop st.es id).length ≤ st.es.length := List.length_filter_le _ _
    have hf := h.few
    refine Sound.rise ⟨once_drop h.once id, fun x hx => h.each x (mem_drop.1 hx).1, by simp only; omega, ?_, h.min⟩
    have := h.cur
    simp only
    split
    · unfold I64; omega
    · exact this
  · exact h
theorem served_ok {e : Ent} {ns : Int} (hn : 0 ≤ ns) (h1 : 2 ≤ e.wt) (h2 : e.wt ≤ 262144) (h3 : 0 ≤ e.rm) (h4 : e.rm < e.wt) (hz : Vrun.cerr e.wt e.rm ns = 0) :
    (served e ns).id = e.id ∧ (served e ns).wt = e.wt ∧ 0 ≤ (served e ns).rm ∧ (served e ns).rm < e.wt ∧ I64 (served e ns).v ∧ Vrun.cval e.wt e.rm ns = (e.rm + 1024 * ns) / e.wt ∧ (served e ns).rm = (e.rm + 1024 * ns) % e.wt := by
  obtain ⟨_, _, _, c4⟩ := cerr_zero hz
  have q := Vrun.quot_bd h1 h4 h3 h2 hn c4
  have e1 := Vrun.cval_in h1 h2 h4 c4
  have e2 := Vrun.crem_in h1 h2 h4 c4
  refine ⟨rfl, rfl, ?_, ?_, Fix.i64_ends _, e1, e2⟩
  · simp only [served, e2]; exact q.2.2.1
  · simp only [served, e2]; exact q.2.2.2
theorem Sound.charge {st : St} (h : Sound st) {ns : Int} (hn : 0 ≤ ns) : Sound (chargeS st ns) := by
  unfold chargeS
  split
  · rename_i hz
    have hnm : named st.es st.cur = true := by
      unfold errCharge at hz
      cases hh : named st.es st.cur
      · rw [hh] at hz; simp at hz
      · rfl
    have hce : Vrun.cerr (find st.es st.cur).wt (find st.es st.cur).rm ns = 0 := by unfold errCharge at hz; rw [hnm] at hz; simpa using hz
    obtain ⟨f1, f2⟩ := find_of hnm
    have he := h.each _ f1
    obtain ⟨s1, s2, s3, s4, s5, _⟩ := served_ok (e := find st.es st.cur) hn he.2.2.1 he.2.2.2.1 he.2.2.2.2.1 he.2.2.2.2.2.1 hce
    have hl := len_drop h.once hnm
    have hf := h.few
    refine Sound.rise ⟨once_ins (once_drop h.once _) ?_, ?_, by simp only [len_insE]; omega, h.cur, h.min⟩
    · rw [s1, f2, named_drop]; simp
    · intro x hx
      rcases mem_insE.1 hx with rfl | hx
      · rw [s1, s2]
        exact ⟨he.1, he.2.1, he.2.2.1, he.2.2.2.1, s3, s4, s5⟩
      · exact h.each x (mem_drop.1 hx).1
  · exact h
/-- Who is chosen is there, or nobody is. -/
theorem chosen_is (st : St) (g : Int) : chosen st g = -1 ∨ named st.es (chosen st g) = true := by
  unfold chosen
  split
  · rename_i hs
    have hn : named st.es st.cur = true := by
      unfold stays at hs
      cases hh : named st.es st.cur
      · rw [hh] at hs; simp at hs
      · rfl
    obtain ⟨f1, f2⟩ := find_of hn
    exact .inr (by rw [f2]; exact hn)
  · split
    · exact .inl rfl
    · rename_i o ho
      refine .inr (List.any_eq_true.2 ⟨o, ?_, by simp⟩)
      unfold other at ho
      exact (mem_drop.1 (List.mem_of_mem_head? ho)).1
theorem Sound.pick {st : St} (h : Sound st) (g : Int) : Sound { st with cur := chosen st g } := by
  refine ⟨h.once, h.each, h.few, ?_, h.min⟩
  rcases chosen_is st g with e | e
  · simp only [e]; unfold I64; omega
  · obtain ⟨x, hx, hid⟩ := List.any_eq_true.1 e
    have := h.each x hx
    have e2 : x.id = chosen st g := by simpa using hid
    simp only [← e2]
    unfold I64
    omega
end Go.Proofs.YtnnjbonejbmgdaaGreat.Queue

/- What walk and Walk of package rbtree answer. Conditions: the nodes lie apart from the row that is filled. -/
namespace Go.Proofs.YtnnjbonejbmgdaaGreat.Queue
open Go.ChangeShapes Go.WideShapes Go.ChangeAt Go.RowKit Tree
set_option linter.unusedVariables false
set_option linter.unusedSimpArgs false
set_option maxRecDepth 100000

def cellsK : List Ky → List Value
  | [] => []
  | k :: l => .int .i64 k.1 :: .int .i64 k.2 :: cellsK l
theorem cellsK_append (a b : List Ky) : cellsK (a ++ b) = cellsK a ++ cellsK b := by
  induction a with
  | nil => rfl
  | cons k l ih => simp [cellsK, ih]
/-- A row in memory that lies in no block of O. -/
def Row (w : World) (O : Nat → Prop) (e : TypeId) (size : Nat) (v : Value) (n : Nat) (xs : List Value) : Prop := w.ownsRow 0 e size v n xs ∧ ∀ k, v.ownBlock = some k → ¬ O k
section
variable {w w' : World} {O : Nat → Prop} {e : TypeId} {size : Nat} {v : Value} {n : Nat} {xs : List Value}
theorem Row.lt (h : Row w O e size v n xs) {k : Nat} (hk : v.ownBlock = some k) : k < w.heap.size := (h.1.lt k hk).2
theorem Row.on (h : Row w O e size v n xs) (hb : ∀ k, v.ownBlock = some k → w'.heap[k]? = w.heap[k]?) : Row w' O e size v n xs := by
  refine ⟨⟨h.1.1, ?_⟩, h.2⟩
  rcases h.1.2 with h1 | ⟨g, cap, cur, rfl, h0, hg, h1⟩
  · exact .inl h1
  · exact .inr ⟨g, cap, cur, rfl, h0, by rw [hb g rfl, hg], h1⟩
theorem Row.fresh (h : Row w O e size v n xs) (hb : Below w.heap.size w w') : Row w' O e size v n xs := h.on fun k hk => hb.block k (h.lt hk)
theorem Row.other (h : Row w O e size v n xs) {O' : Nat → Prop} (hb : ∀ k, v.ownBlock = some k → ¬ O' k) : Row w O' e size v n xs := ⟨h.1, hb⟩
end
theorem Same.app {w w2 w4 : World} {O O' : Nat → Prop} {o : Obj} {e : TypeId} {size n : Nat} {v2 : Value} {xs : List Value} (h : Same O w w2) (hO : ∀ k, O k → k < w.heap.size) (hr : Row w2 O' e size v2 n xs) (hOO : ∀ k, O k → O' k) (hg : (w2.alloc o).grownBy w4 v2.ownBlock) : Same O w w4 := by
  have hb := (Below.refl w2.heap.size w2).alloc (Nat.le_refl _) o
  refine ⟨hg.os.trans h.os, hg.tape.trans h.tape, hg.output.trans h.output, Nat.le_trans h.size (Nat.le_trans hb.size hg.size), fun k hk => ?_⟩
  have hk2 : k < w2.heap.size := Nat.lt_of_lt_of_le (hO k hk) h.size
  rw [hg.block k (Nat.lt_of_lt_of_le hk2 hb.size) (fun e => hr.2 k e.symm (hOO k hk)), hb.block k hk2, h.block k hk]
theorem Same.app0 {w w2 w4 : World} {O O' : Nat → Prop} {e : TypeId} {size n : Nat} {v2 : Value} {xs : List Value} (h : Same O w w2) (hO : ∀ k, O k → k < w.heap.size) (hr : Row w2 O' e size v2 n xs) (hOO : ∀ k, O k → O' k) (hg : w2.grownBy w4 v2.ownBlock) : Same O w w4 := by
  refine ⟨hg.os.trans h.os, hg.tape.trans h.tape, hg.output.trans h.output, Nat.le_trans h.size hg.size, fun k hk => ?_⟩
  rw [hg.block k (Nat.lt_of_lt_of_le (hO k hk) h.size) (fun e => hr.2 k e.symm (hOO k hk)), h.block k hk]
theorem row_of {w w2 w4 : World} {O : Nat → Prop} {e : TypeId} {size n cap g : Nat} {v2 : Value} {xs : List Value} (hO : ∀ k, O k → k < w.heap.size) (hs : w.heap.size ≤ w2.heap.size) (hown : w4.ownsRow 0 e size (.slice (some ⟨g, 0, none⟩) n cap) n xs) (h1 : O g → v2.ownBlock = some g → False) (hat : v2.ownBlock = some g ∨ w2.heap.size ≤ g) :
    Row w4 O e size (.slice (some ⟨g, 0, none⟩) n cap) n xs := by
  refine ⟨hown, fun k hk e => ?_⟩
  simp [Value.ownBlock] at hk
  subst hk
  rcases hat with h | h
  · exact h1 e h
  · have := hO _ e; omega
/-- A row told, and what was held apart from it. -/
def Fills (O : Nat → Prop) (n : Nat) (xs : List Value) (w : World) (e : Ending) (w' : World) : Prop := ∃ v', e = .returned v' ∧ Row w' O 155 2 v' n xs ∧ Same O w w'
theorem infoK : (Tryz.prog.info? 155).map (fun i => (i.zero, i.size, i.bytes)) = some (some (.agg #[.int .i64 0, .int .i64 0]), 2, 16) := by kernel_rfl

theorem walk_nil (w : World) (v : Value) : Calls Tryz.prog 144 #[.pointer none, v] w (fun e w' => e = .returned v ∧ w = w') := by
  go_enter Tryz.func144, Tryz.ntmps144
  go_wp2_with fail
  go_ret; exact ⟨rfl, rfl⟩
set_option maxHeartbeats 4000000 in
theorem walks (T : Tr) : ∀ (w : World) (O : Nat → Prop) (v : Value) (n : Nat) (xs : List Value), In w T → (∀ b ∈ T.bl, O b) → (∀ k, O k → k < w.heap.size) → Row w O 155 2 v n xs → n + T.keys.length ≤ 1000 →
    Calls Tryz.prog 144 #[.pointer T.at, v] w (Fills O (n + T.keys.length) (xs ++ cellsK T.keys) w) := by
  induction T with
  | nil =>
    intro w O v n xs _ _ _ hr _
    refine (walk_nil w v).mono ?_
    rintro e w' ⟨rfl, rfl⟩
    exact ⟨v, rfl, by simpa [Tr.keys, cellsK] using hr, Same.refl _ _⟩
  | node b c l kv ki r ihl ihr =>
    intro w O v n xs h hb hO hr hn
    have hbl : O b := hb b (by simp [Tr.bl])
    have hl : ∀ k ∈ l.bl, O k := fun k hk => hb k (by simp [Tr.bl, hk])
    have hrr : ∀ k ∈ r.bl, O k := fun k hk => hb k (by simp [Tr.bl, hk])
    simp only [Tr.keys, List.length_append, List.length_cons] at hn
    obtain ⟨a0, a1, a2, a3, a4, af⟩ := h.1.cells
    obtain ⟨i0, hi, hz0, hz1, hz2⟩ := info_parts infoK
    have hbs := h.1.lt
    have LG : Hid (∀ w' (O' : Nat → Prop), (In w' l ∧ (∀ k ∈ l.bl, O' k) ∧ (∀ k, O' k → k < w'.heap.size) ∧ Row w' O' 155 2 v n xs ∧ (∀ k, O k → O' k) ∧ Same O w w') → Calls Tryz.prog 144 #[.pointer l.at, v] w' (fun e w2 => ∃ v2, e = .returned v2 ∧ (Row w2 O' 155 2 v2 (n + l.keys.length) (xs ++ cellsK l.keys) ∧ Same O w w2 ∧ (∀ k, O' k → w2.heap[k]? = w'.heap[k]?) ∧ ∀ k, O' k → O k ∨ k < w'.heap.size))) := by
      rintro w' O' ⟨c1, c2, c3, c4, c5, c6⟩
      refine (ihl w' O' v n xs c1 c2 c3 c4 (by omega)).mono ?_
      rintro e w2 ⟨v2, rfl, hr2, hs2⟩
      exact ⟨v2, rfl, hr2, c6.trans (hs2.mono c5), hs2.block, fun k hk => .inr (c3 k hk)⟩
    have OA : Hid (In w.drew l ∧ (∀ k ∈ l.bl, O k) ∧ (∀ k, O k → k < w.drew.heap.size) ∧ Row w.drew O 155 2 v n xs ∧ (∀ k, O k → O k) ∧ Same O w w.drew) := ⟨h.2.1.drew, hl, hO, hr.on fun _ _ => rfl, fun _ hk => hk, ⟨rfl, rfl, rfl, Nat.le_refl _, fun _ _ => rfl⟩⟩
    have OB : Hid (In (w.alloc (.cells #[.int .i64 kv, .int .i64 ki] 155)).drew l ∧ (∀ k ∈ l.bl, (O k ∨ k = w.heap.size)) ∧ (∀ k, (O k ∨ k = w.heap.size) → k < (w.alloc (.cells #[.int .i64 kv, .int .i64 ki] 155)).drew.heap.size) ∧ Row (w.alloc (.cells #[.int .i64 kv, .int .i64 ki] 155)).drew (fun k => O k ∨ k = w.heap.size) 155 2 v n xs ∧ (∀ k, O k → (O k ∨ k = w.heap.size)) ∧ Same O w (w.alloc (.cells #[.int .i64 kv, .int .i64 ki] 155)).drew) :=
      ⟨(h.2.1.alloc _).drew, fun k hk => .inl (hl k hk), by rintro k (hk | rfl); have := hO k hk; simp [World.drew]; omega; simp [World.drew],
        ((hr.fresh ((Below.refl _ w).alloc (Nat.le_refl _) _)).on fun _ _ => rfl).other (by rintro k hk (e | rfl); exact hr.2 k hk e; exact absurd (hr.lt hk) (by omega)), fun _ hk => .inl hk, Same.of ((Below.refl _ w).alloc (Nat.le_refl _) _).drew hO⟩
    have ON : Hid (∀ w', Same O w w' → Calls Tryz.prog 168 #[.pointer (some ⟨b, 0, none⟩)] w' (Still (.pointer l.at) w') ∧ Calls Tryz.prog 169 #[.pointer (some ⟨b, 0, none⟩)] w' (Still (.pointer r.at) w')) :=
      fun w' g => ⟨onLeft w' (h.1.on (g.block b hbl)), onRight w' (h.1.on (g.block b hbl))⟩
    have RI : Hid (∀ w' v' n' xs', Same O w w' → Row w' O 155 2 v' n' xs' → n' + r.keys.length ≤ 1000 → Calls Tryz.prog 144 #[.pointer r.at, v'] w' (Fills O (n' + r.keys.length) (xs' ++ cellsK r.keys) w')) :=
      fun w' v' n' xs' g hr' hn' => ihr w' O v' n' xs' (h.2.2.on fun k hk => g.block k (hrr k hk)) hrr (fun k hk => Nat.lt_of_lt_of_le (hO k hk) g.size) hr' hn'
    have SA : Hid (Same O w w.drew) := ⟨rfl, rfl, rfl, Nat.le_refl _, fun _ _ => rfl⟩
    have SB : Hid (∀ o, Same O w (w.alloc o).drew) := fun o => Same.of ((Below.refl _ w).alloc (Nat.le_refl _) o).drew hO
    rw [at_node]
    have hnr := hr
    have E : Hid (xs ++ cellsK (Tr.node b c l kv ki r).keys = ((xs ++ cellsK l.keys) ++ [.int .i64 kv, .int .i64 ki]) ++ cellsK r.keys ∧ n + (Tr.node b c l kv ki r).keys.length = (n + l.keys.length + 1) + r.keys.length) := by
      refine ⟨by simp [Tr.keys, cellsK_append, cellsK], by simp [Tr.keys]; omega⟩
    clear ihl ihr h hb hl hrr a2 a3 a4 af
    generalize l.at = la at *
    generalize r.at = ra at *
    go_enter Tryz.func144, Tryz.ntmps144
    go_wp2_with fail
    have NB : Hid (∀ (w2 : World), (∀ k, (O k ∨ k = w.heap.size) → w2.heap[k]? = (w.alloc (.cells #[.int .i64 kv, .int .i64 ki] 155)).drew.heap[k]?) → w2.heap[w.heap.size]? = some (.cells #[.int .i64 kv, .int .i64 ki] 155 (0, 0))) := fun w2 hb => (hb _ (.inr rfl)).trans (heap_alloc_new w _)
    go_region_held3 (fun w' => w'.cell? ⟨b, 0, none⟩ = some (.int .i64 kv) ∧ w'.cell? ⟨b, 1, none⟩ = some (.int .i64 ki)) (first | exact ⟨a0, a1⟩ | exact ⟨q0, q1⟩ | exact ⟨u0, u1⟩ | go_keep)
      (first
        | (go_at_call 168; refine ((ON.out _ ?_).1).mono ?_; (first | exact SA.out | exact SB.out _); rintro e w1 ⟨rfl, rfl⟩)
        | (go_at_call 144; refine (LG.out _ _ (by first | exact OA.out | exact OB.out)).mono ?_; rintro e w2 ⟨v2, rfl, hr2, hs2, hbk, hok⟩; have q0 := (World.cell?_of_block (a := ⟨b, 0, none⟩) (hs2.block b hbl)).trans a0; have q1 := (World.cell?_of_block (a := ⟨b, 1, none⟩) (hs2.block b hbl)).trans a1)
        | (refine step_append_lies _ (by rfl) _ _ _ (by rfl) 0 155 i0 _ 2 16 Tryz.underlying152 hi hz0 hz1 hz2 rfl (by omega) v2 (n + l.keys.length) (xs ++ cellsK l.keys) (by rfl) (hr2.fresh ((Below.refl _ w2).alloc (Nat.le_refl _) _)).1 ⟨w2.heap.size, 0, none⟩ 1 1 [.int .i64 kv, .int .i64 ki] (by rfl) (by rfl) (World.news_of_block (cs := #[.int .i64 kv, .int .i64 ki]) (t := 155) (fr := (0, 0)) (heap_alloc_new w2 _)) (by simp [Value.oneCell']) (by omega) (by simp only [maxLen]; omega) (by omega) (Nat.zero_le _) (w2.heap.size + 1) (by simp) ?_; intro g cap w4 hown hgrow hat hlt; have hS4 := hs2.app hO hr2 (fun k hk => hk) hgrow; have RO := row_of hO hs2.size hown (fun e h => hr2.2 g h e) (hat.imp id (fun e => (by omega : w2.heap.size ≤ g))); have u0 := (World.cell?_of_block (a := ⟨b, 0, none⟩) (hS4.block b hbl)).trans a0; have u1 := (World.cell?_of_block (a := ⟨b, 1, none⟩) (hS4.block b hbl)).trans a1)
        | (refine step_append_lies _ (by rfl) _ _ _ (by rfl) 0 155 i0 _ 2 16 Tryz.underlying152 hi hz0 hz1 hz2 rfl (by omega) v2 (n + l.keys.length) (xs ++ cellsK l.keys) (by rfl) hr2.1 ⟨w.heap.size, 0, none⟩ 1 1 [.int .i64 kv, .int .i64 ki] (by rfl) (by rfl) (World.news_of_block (cs := #[.int .i64 kv, .int .i64 ki]) (t := 155) (fr := (0, 0)) (NB.out w2 hbk)) (by simp [Value.oneCell']) (by omega) (by simp only [maxLen]; omega) (by omega) (Nat.zero_le _) w2.heap.size rfl ?_; intro g cap w4 hown hgrow hat hlt; have hS4 := hs2.app0 hO hr2 (fun k hk => .inl hk) hgrow; have RO := row_of hO hs2.size hown (fun e h => hr2.2 g h (.inl e)) (hat.imp id (fun e => (by omega : w2.heap.size ≤ g))); have u0 := (World.cell?_of_block (a := ⟨b, 0, none⟩) (hS4.block b hbl)).trans a0; have u1 := (World.cell?_of_block (a := ⟨b, 1, none⟩) (hS4.block b hbl)).trans a1))
    all_goals
      go_wp2_with (first
        | (go_at_call 169; refine ((ON.out _ hS4).2).mono ?_; rintro e w5 ⟨rfl, rfl⟩)
        | (go_at_call 144; refine (RI.out _ _ _ _ hS4 RO (by omega)).mono ?_; rintro e w5 ⟨v5, rfl, hr5, hs5⟩))
      go_ret
      exact ⟨v5, rfl, by rw [E.out.1, E.out.2]; exact hr5, hS4.trans hs5⟩
end Go.Proofs.YtnnjbonejbmgdaaGreat.Queue

/- What Walk of package rbtree answers. Conditions: there are no more than a thousand keys. -/
namespace Go.Proofs.YtnnjbonejbmgdaaGreat.Queue
open Go.ChangeShapes Go.WideShapes Go.ChangeAt Go.RowKit Tree
set_option linter.unusedVariables false
set_option linter.unusedSimpArgs false
set_option maxRecDepth 100000

set_option maxHeartbeats 4000000 in
theorem Walks (w : World) (t : Nat) (T : Tr) (O : Nat → Prop) (h : Top w t T) (hO : ∀ k, O k → k < w.heap.size) (hb : ∀ b ∈ T.bl, O b) (hl : T.keys.length ≤ 1000) :
    Calls Tryz.prog 106 #[.pointer (some ⟨t, 0, none⟩)] w (Fills O T.keys.length (cellsK T.keys) w) := by
  obtain ⟨c0, c1, fz⟩ := h.cells
  have ht := h.lt
  obtain ⟨i0, hi, hz0, hz1, hz2⟩ := info_parts infoK
  obtain ⟨w1, hmk, hown, hgr⟩ := run_make_own (P := Tryz.prog) w.drew 0 152 155 i0 _ 2 Tryz.underlying152 hi hz0 hz1 .i64 .i64 T.keys.length (by rw [hz2]; omega) (by unfold maxLen; omega) (Nat.zero_le _)
  have hg : Below w.heap.size w w1 := ⟨hgr.os, hgr.tape, hgr.output, hgr.size, fun b hb => hgr.block b hb (by simp)⟩
  have hrow : Row w1 O 155 2 (.slice (some ⟨w.heap.size, 0, none⟩) 0 T.keys.length) 0 [] := ⟨hown, fun k hk e => by
    simp [Value.ownBlock] at hk
    have := hO k e
    omega⟩
  have WK := Lib.hid (walks T w1 O _ 0 [] (h.2.fresh hg) hb (fun k hk => Nat.lt_of_lt_of_le (hO k hk) hg.size) hrow (by omega))
  have x0 := (hg.cell (p := ⟨t, 0, none⟩) ht).trans c0
  have x1 := (hg.cell (p := ⟨t, 1, none⟩) ht).trans c1
  have SO := Lib.hid (Same.of hg hO)
  rw [Nat.zero_add, List.nil_append] at WK
  clear h hb hown hgr hrow hz0 hz1 hz2 hi
  have hdz : w.drew.heap.size = w.heap.size := rfl
  rw [hdz] at hmk
  generalize T.keys.length = len at *
  generalize T.at = ta at *
  go_enter Tryz.func106, Tryz.ntmps106
  go_wp2_with fail
  go_region_with (go_at_call 144; refine (WK.out).mono ?_; rintro e w2 ⟨v2, rfl, hr2, hs2⟩)
  all_goals
    go_wp2_with fail
    go_ret
    exact ⟨v2, rfl, hr2, SO.out.trans hs2⟩
end Go.Proofs.YtnnjbonejbmgdaaGreat.Queue

/- What Ents of package runq answers. Conditions: there are no more than 500 entities, each number one of its kind. -/
namespace Go.Proofs.YtnnjbonejbmgdaaGreat.Queue
open Go.ChangeShapes Go.WideShapes Go.ChangeAt Go.RowKit Tree
set_option linter.unusedVariables false
set_option linter.unusedSimpArgs false
set_option maxRecDepth 100000

def cellsE : List Ent → List Value
  | [] => []
  | e :: l => .int .i64 e.id :: .int .u64 e.wt :: .int .i64 e.v :: .int .u64 e.rm :: cellsE l
theorem cellsE_append (a b : List Ent) : cellsE (a ++ b) = cellsE a ++ cellsE b := by
  induction a with
  | nil => rfl
  | cons k l ih => simp [cellsE, ih]
theorem infoE : (Tryz.prog.info? 34).map (fun i => (i.zero, i.size, i.bytes)) = some (some (.agg #[.int .i64 0, .int .u64 0, .int .i64 0, .int .u64 0]), 4, 32) := by kernel_rfl
theorem Row.shape {w : World} {O : Nat → Prop} {e : TypeId} {size : Nat} {v : Value} {n : Nat} {xs : List Value} (h : Row w O e size v n xs) : ∃ ao cap, v = .slice ao n cap ∧ (n = 0 ∨ ∃ g, ao = some ⟨g, 0, none⟩) ∧ n ≤ cap := by
  rcases h.1.2 with ⟨rfl, rfl⟩ | ⟨g, cap, cur, rfl, _, _, h1, _⟩
  · exact ⟨none, 0, rfl, .inl rfl, Nat.le_refl _⟩
  · exact ⟨_, cap, rfl, .inr ⟨g, rfl⟩, h1⟩
theorem cellsK_at {l : List Ky} {j : Nat} {k : Ky} (h : l[j]? = some k) : (cellsK l)[j * 2]? = some (.int .i64 k.1) ∧ (cellsK l)[j * 2 + 1]? = some (.int .i64 k.2) := by
  induction l generalizing j with
  | nil => simp at h
  | cons q l ih =>
    cases j with
    | zero => simp at h; subst h; simp [cellsK]
    | succ j =>
      simp at h
      obtain ⟨h1, h2⟩ := ih h
      rw [show (j + 1) * 2 = j * 2 + 2 by omega]
      exact ⟨by simpa [cellsK] using h1, by simpa [cellsK] using h2⟩
/-- The list told, in memory that is new. -/
def Told (es : List Ent) (w : World) (e : Ending) (w' : World) : Prop := ∃ v, e = .returned v ∧ Row w' (· < w.heap.size) 34 4 v es.length (cellsE es) ∧ Below w.heap.size w w'
/-- What is behind an append to the list. -/
theorem ents_app {w A w4 : World} {g g4 cap cap4 len j : Nat} {out : Value} {o : Obj} {ks xs ys : List Value} (hgA : Below w.heap.size w A) (hgk : g < A.heap.size) (hr : Row A (fun k => k < w.heap.size ∨ (Value.slice (some ⟨g, 0, none⟩) len cap).ownBlock = some k) 34 4 out j xs)
    (hk : A.ownsRow 0 155 2 (.slice (some ⟨g, 0, none⟩) len cap) len ks) (hown : w4.ownsRow 0 34 4 (.slice (some ⟨g4, 0, none⟩) (j + 1) cap4) (j + 1) ys) (hgrow : (A.alloc o).drew.grownBy w4 out.ownBlock) (hat : out.ownBlock = some g4 ∨ g4 = A.heap.size + 1) :
    (Below w.heap.size w w4 ∧ w4.ownsRow 0 155 2 (.slice (some ⟨g, 0, none⟩) len cap) len ks) ∧ Row w4 (fun k => k < w.heap.size ∨ (Value.slice (some ⟨g, 0, none⟩) len cap).ownBlock = some k) 34 4 (.slice (some ⟨g4, 0, none⟩) (j + 1) cap4) (j + 1) ys ∧
    ∀ p : Addr, p.block < A.heap.size → (p.block < w.heap.size ∨ some p.block ≠ out.ownBlock) → w4.cell? p = A.cell? p := by
  have hb := (Below.refl A.heap.size A).alloc (Nat.le_refl _) o
  have hs := hgA.size
  have blk : ∀ k, k < A.heap.size → some k ≠ out.ownBlock → w4.heap[k]? = A.heap[k]? := fun k hk hne => (hgrow.block k (Nat.lt_of_lt_of_le hk hb.size) hne).trans (hb.block k hk)
  have nout : ∀ k, (k < w.heap.size ∨ (Value.slice (some ⟨g, 0, none⟩) len cap).ownBlock = some k) → some k ≠ out.ownBlock := fun k hk e => hr.2 k e.symm hk
  refine ⟨⟨⟨hgrow.os.trans hgA.os, hgrow.tape.trans hgA.tape, hgrow.output.trans hgA.output, Nat.le_trans hs (Nat.le_trans hb.size hgrow.size), fun k hk => (blk k (by omega) (nout k (.inl hk))).trans (hgA.block k hk)⟩, ?_⟩, ⟨hown, ?_⟩, ?_⟩
  · exact (Row.on (O := fun _ => False) ⟨hk, fun _ _ e => e⟩ fun k hk' => blk k (by simp [Value.ownBlock] at hk'; omega) (nout k (.inr hk'))).1
  · intro k hk' e
    simp [Value.ownBlock] at hk'
    subst hk'
    rcases hat with h | h
    · exact hr.2 _ h e
    · rcases e with e | e
      · omega
      · simp [Value.ownBlock] at e; omega
  · intro p hp hx
    exact World.cell?_of_block (blk p.block hp (hx.elim (fun e => nout _ (.inl e)) id))
def EntsI (w : World) (es : List Ent) (vk : Value) (out i : Value) (wr : World) : Prop :=
  ∃ (j : Nat) (vo : Value), vo = out ∧ j ≤ es.length ∧ i = .int .i64 j ∧ Row wr (fun k => k < w.heap.size ∨ vk.ownBlock = some k) 34 4 vo j (cellsE (es.take j)) ∧ wr.ownsRow 0 155 2 vk es.length (cellsK (es.map Ent.key)) ∧ Below w.heap.size w wr
set_option maxHeartbeats 4000000 in
theorem ents (w : World) (q : Nat) (O : Nat → Prop) (st : St) (h : Qu w q O st) (ho : Once st.es) (hid : ∀ e ∈ st.es, I64 e.id) (hl : st.es.length ≤ 500) :
    Calls Tryz.prog 60 #[.pointer (some ⟨q, 0, none⟩)] w (Told st.es w) := by
  have M := Lib.hid (made w q O st h)
  obtain ⟨m, t, T, h⟩ := h
  obtain ⟨c0, c1, c2, c3, c4, fz⟩ := h.blk.cells
  have hq := h.blk.lt
  obtain ⟨i0, hi, hz0, hz1, hz2⟩ := info_parts infoE
  have hln := h.map.len (w := w)
  obtain ⟨w1, hmk, hown, hgr⟩ := run_make_own (P := Tryz.prog) w 0 27 34 i0 _ 4 Tryz.underlying27 hi hz0 hz1 .i64 .i64 st.es.length (by rw [hz2]; omega) (by unfold maxLen; omega) (Nat.zero_le _)
  have hg : Below w.heap.size w w1 := ⟨hgr.os, hgr.tape, hgr.output, hgr.size, fun b hb => hgr.block b hb (by simp)⟩
  have hg0lt : w.heap.size < w1.heap.size := (hown.lt w.heap.size rfl).2
  have WK := Lib.hid (Walks w1 t T (· < w1.heap.size) (h.fresh hg).kept.top (fun k hk => hk) (fun b hb => (h.fresh hg).kept.top.2.lt b hb) (by rw [h.keys]; simpa using Nat.le_trans hl (by omega)))
  have L : Hid (∀ w' id, Below w.heap.size w w' → I64 id → (Instr.lookup 133 (.map (some m)) (.int .i64 id) false).run Tryz.prog w' = .ok (find st.es id).val w') := fun w' id g hi => (h.map.fresh g).look1 hi
  rw [h.keys, List.length_map] at WK
  have x1 := (hg.cell (p := ⟨q, 1, none⟩) hq).trans c1
  have hrow : Row w1 (· < w.heap.size) 34 4 (.slice (some ⟨w.heap.size, 0, none⟩) 0 st.es.length) 0 [] := ⟨hown, fun k hk e => by simp [Value.ownBlock] at hk; omega⟩
  have HR := Lib.hid hrow
  clear h hown hgr hrow
  generalize hes : st.es = es at *
  simp only [mapT] at hln
  go_enter Tryz.func60, Tryz.ntmps60
  go_wp2_with (first
    | (go_at_call 105; refine (M.out).mono ?_; rintro e w' ⟨rfl, rfl⟩)
    | (go_at_call 106; refine (WK.out).mono ?_; rintro e w2 ⟨v2, rfl, hr2, hs2⟩; obtain ⟨ao, cap, rfl, hao, hcap⟩ := hr2.shape))
  go_loopw [3, 21] (fun out i wr => EntsI w es (.slice ao es.length cap) out i wr) (fun _ i _ => es.length - (intOf i).toNat)
  case atStart =>
    refine ⟨0, _, rfl, by omega, rfl, ?_, hr2.1, hg.trans (hs2.below.mono hg.size)⟩
    have hb2 : Below w1.heap.size w1 w2 := hs2.below
    refine (HR.out.fresh hb2).other ?_
    rintro k hk (e | e)
    · exact HR.out.2 k hk e
    · exact hr2.2 k e (HR.out.lt hk)
  case round =>
    obtain ⟨j, vo, rfl, hj, rfl, hro, hk, hbw⟩ := hrel
    by_cases hlt : j < es.length
    · have hlt' : (j : Int) < (es.length : Int) := by omega
      rcases hao with h0 | ⟨g, rfl⟩
      · omega
      obtain ⟨e, he⟩ : ∃ e, es[j]? = some e := ⟨es[j], by simp [hlt]⟩
      have hem : e ∈ es := List.mem_of_getElem? he
      have hfe : find es e.id = e := find_mem ho hem
      have hie := hid e hem
      have hkj : (es.map Ent.key)[j]? = some e.key := by simp [he]
      obtain ⟨kk0, kk1⟩ := cellsK_at hkj
      have add : ∀ n, (⟨g, 0, none⟩ : Addr).add n = ⟨g, n, none⟩ := fun n => by unfold Addr.add; split <;> simp_all
      have k0 := hk.cells (g := g) rfl _ _ kk0
      have k1 := hk.cells (g := g) rfl _ _ kk1
      rw [add] at k0 k1
      simp only [Ent.key] at k0 k1
      have x0 := (hbw.cell (p := ⟨q, 0, none⟩) hq).trans c0
      have hgk : g < wr.heap.size := (hk.lt g rfl).2
      have hqr : q < wr.heap.size := Nat.lt_of_lt_of_le hq hbw.size
      have LE : Hid (∀ w', Below w.heap.size w w' → (Instr.lookup 133 (.map (some m)) (.int .i64 e.id) false).run Tryz.prog w' = .ok (.agg #[.int .i64 e.id, .int .u64 e.wt, .int .i64 e.v, .int .u64 e.rm]) w') := fun w' gb => by
        have := L.out w' e.id gb hie
        rw [hfe] at this
        exact this
      have ET : Hid (cellsE (es.take (j + 1)) = cellsE (es.take j) ++ [.int .i64 e.id, .int .u64 e.wt, .int .i64 e.v, .int .u64 e.rm]) := by
        show cellsE (es.take (j + 1)) = _
        rw [List.take_add_one, he]
        simp [cellsE_append, cellsE]
      have R := Lib.hid hro
      have HK := Lib.hid hk
      have HB := Lib.hid hbw
      clear hro hk hbw L hfe hie hkj kk0 kk1 hmk hln WK hr2 hs2 HR hem he
      obtain ⟨ei, ew, ev, er⟩ := e
      simp only at *
      go_wp2_with fail
      have hA := (Below.refl wr.heap.size wr).alloc (Nat.le_refl _) (.cells #[.int .i64 ev, .int .i64 ei] 155)
      obtain ⟨n0, n1, nz, nn⟩ := new_two (Below.refl _ (wr.alloc (.cells #[.int .i64 ev, .int .i64 ei] 155)))
      have y0 := (hA.cell (p := ⟨q, 0, none⟩) hqr).trans x0
      have hgA := HB.out.trans (hA.mono HB.out.size)
      have hsA := lt_of nn
      have RA := Lib.hid (R.out.fresh hA)
      have KA : Hid ((wr.alloc (.cells #[.int .i64 ev, .int .i64 ei] 155)).ownsRow 0 155 2 (.slice (some ⟨g, 0, none⟩) es.length cap) es.length (cellsK (es.map Ent.key))) := (Row.fresh (O := fun _ => False) ⟨HK.out, fun _ _ e => e⟩ hA).1
      have hgkA : g < (wr.alloc (.cells #[.int .i64 ev, .int .i64 ei] 155)).heap.size := Nat.lt_of_lt_of_le hgk hA.size
      have hqA : q < (wr.alloc (.cells #[.int .i64 ev, .int .i64 ei] 155)).heap.size := Nat.lt_of_lt_of_le hqr hA.size
      have hsO : some wr.heap.size ≠ vo.ownBlock := fun e => Nat.lt_irrefl _ (R.out.lt e.symm)
      clear hA nn nz n0 k0 k1 x0 R HK HB
      generalize wr.alloc (.cells #[.int .i64 ev, .int .i64 ei] 155) = A at *
      generalize wr.heap.size = s at *
      have nb := cell_alloc y0
      have nc := cell_alloc n1
      have hB : Hid (∀ o, Below w.heap.size w (A.alloc o).drew) := fun o => (hgA.alloc hgA.size o).drew
      go_region_held3 (fun w' => w'.cell? ⟨q, 0, none⟩ = some (.map (some m)) ∧ w'.cell? ⟨s, 1, none⟩ = some (.int .i64 ei) ∧ (Instr.lookup 133 (.map (some m)) (.int .i64 ei) false).run Tryz.prog w' = .ok (.agg #[.int .i64 ei, .int .u64 ew, .int .i64 ev, .int .u64 er]) w')
        (first | exact ⟨y0, n1, LE.out _ hgA.drew⟩ | exact ⟨nb _, nc _, LE.out _ (hB.out _)⟩ | exact ⟨z0, z1, LE.out _ hg4⟩)
        ((refine step_append_lies _ (by rfl) _ _ _ (by rfl) 0 34 i0 _ 4 32 Tryz.underlying27 hi hz0 hz1 hz2 rfl (by omega) _ j (cellsE (es.take j)) (by rfl) (RA.out.fresh ((Below.refl _ A).alloc (Nat.le_refl _) _).drew).1 ⟨A.heap.size, 0, none⟩ 1 1 [.int .i64 ei, .int .u64 ew, .int .i64 ev, .int .u64 er] (by rfl) (by rfl) (World.news_of_block (cs := #[.int .i64 ei, .int .u64 ew, .int .i64 ev, .int .u64 er]) (t := 34) (fr := (0, 0)) (heap_alloc_new A _)) (by simp [Value.oneCell']) (by omega) (by simp only [maxLen]; omega) (by omega) (Nat.zero_le _) (A.heap.size + 1) (by simp) ?_; intro g4 cap4 w4 hown hgrow hat hlt4; obtain ⟨⟨hg4, hk4⟩, hr4, hs4⟩ := ents_app hgA hgkA RA.out KA.out hown hgrow hat; have z0 := (hs4 ⟨q, 0, none⟩ hqA (Or.inl hq)).trans y0; have z1 := (hs4 ⟨s, 1, none⟩ hsA (Or.inr hsO)).trans n1))
      have HB := Lib.hid hg4
      have HK := Lib.hid hk4
      have R := Lib.hid hr4
      clear hg4 hk4 hr4 hs4 hown hgrow hat
      go_wp2_with fail
      go_roundw
      case rel => exact ⟨j + 1, _, rfl, by omega, by go_num, by rw [ET.out]; exact R.out, HK.out, HB.out⟩
      case measure => simp [intOf]; omega
    · have hlt' : ¬ (j : Int) < (es.length : Int) := by omega
      have hje : j = es.length := by omega
      have R := Lib.hid hro
      have HB := Lib.hid hbw
      clear hro hk hbw
      go_wp2_with fail
      go_ret
      refine ⟨_, rfl, ?_, HB.out⟩
      have := R.out
      rw [hje, List.take_length] at this
      exact this.other (fun k hk e => this.2 k hk (.inl e))
end Go.Proofs.YtnnjbonejbmgdaaGreat.Queue
