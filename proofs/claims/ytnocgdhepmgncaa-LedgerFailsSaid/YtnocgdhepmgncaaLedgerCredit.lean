/- What Credit does. Conditions: the path lies in no block of the book's; a million entries at most. -/
import Derived.Test.YtnocgdhepmgncaaLedgerSound
namespace Go.Proofs.Ytnocgdhepmgncaa.Ledger
open Go.ChangeShapes Go.WideShapes Go.ChangeAt Go.RowKit Go.Sort Mem
set_option linter.unusedVariables false
set_option linter.unusedSimpArgs false
set_option maxRecDepth 100000

theorem addG_zero (g : Int → Int) (xs : List Int) (ns : Int) : addG g (xs.take 0) ns = g := by funext i; simp [addG]
theorem addG_succ (g : Int → Int) {xs : List Int} (hn : xs.Nodup) (ns : Int) {k : Nat} {x : Int} (hk : xs[k]? = some x) :
    addG g (xs.take k) ns x = g x ∧ addG g (xs.take (k + 1)) ns = upd (addG g (xs.take k) ns) x (g x + ns) := by
  obtain ⟨hl, e⟩ := List.getElem?_eq_some_iff.1 hk
  have hx : x ∉ xs.take k := by
    intro hm
    obtain ⟨i, hi, ei⟩ := List.mem_iff_getElem.1 hm
    simp at hi ei
    rw [List.nodup_iff_pairwise_ne, List.pairwise_iff_getElem] at hn
    exact hn i k (by omega) hl (by omega) (ei.trans e.symm)
  have h1 : addG g (xs.take k) ns x = g x := by unfold addG; rw [if_neg hx]
  refine ⟨h1, ?_⟩
  funext i
  unfold upd addG
  rw [List.take_succ_eq_append_getElem hl, e]
  by_cases ei : i = x
  · subst ei; simp
  · simp [ei]
theorem addG_all (g : Int → Int) (xs : List Int) (ns : Int) : addG g (xs.take xs.length) ns = addG g xs ns := by rw [List.take_length]

/-- A call that may turn the book. -/
def Did (lo hi b N : Nat) (s : Bk) (v : Value) (w : World) (e : Ending) (w' : World) : Prop := e = .returned v ∧ Book w' lo hi b N s ∧ But lo hi w w'
/-- In the round for the group in place k. -/
def CrI (w : World) (lo hi b mt mg N n : Nat) (T : Int) (s : Bk) (xs : List Int) (f : Int → Int) (ns : Int) (left : Nat) (v : Value) (wr : World) : Prop :=
  ∃ k : Nat, left + k = n ∧ v = .int .i64 (k : Int) ∧ Parts wr lo hi b mt mg (N + 1 + k) ⟨f, addG s.g (xs.take k) ns, T⟩ ∧ But lo hi w wr
set_option maxHeartbeats 4000000 in
theorem credit (w : World) (lo hi b N : Nat) (s : Bk) (a : Option Addr) (n c : Nat) (xs : List Int) (task ns : Int) (hs : Ok s) (h : Book w lo hi b N s) (hp : Path (fun k => k < lo ∨ hi ≤ k) w a n c xs) (ht : I64 task) (hns : I64 ns) (hN : N + n ≤ 1000000) :
    Calls Try.prog 15 #[.pointer (some ⟨b, 0, none⟩), .slice a n c, .int .i64 task, .int .i64 ns] w (Did lo hi b (N + 1 + n) (cre s xs task ns) (.int .i64 (code s xs task ns)) w) := by
  have M := Lib.hid (made w _ _ _ _ _ h)
  have FB : Hid (∀ w', Below w.heap.size w w' → Book w' lo hi b (N + 1 + n) s ∧ But lo hi w w') := fun w' hg => ⟨(h.fresh hg).mono (by omega), But.of hg⟩
  have SD := Lib.hid (fun w' (hg : Below w.heap.size w w') => sound _ w' a n c xs (hp.fresh hg))
  obtain ⟨q1, q2⟩ := ht
  obtain ⟨q3, q4⟩ := hns
  by_cases k1 : ns < 0
  · have e1 : code s xs task ns = 1 := by simp [code, wrong, k1]
    have e2 : cre s xs task ns = s := by simp [cre, e1]
    rw [e1, e2]
    clear h hp SD e1 e2 hs
    go_enter Try.func15, Try.ntmps15
    go_wp2_with (go_at_call 26; refine M.out.mono ?_; rintro e w1 ⟨rfl, hg1⟩)
    go_ret
    exact ⟨rfl, FB.out _ hg1⟩
  by_cases k2 : task < 0
  · have e1 : code s xs task ns = 1 := by simp [code, wrong, k2]
    have e2 : cre s xs task ns = s := by simp [cre, e1]
    rw [e1, e2]
    clear h hp SD e1 e2 hs
    go_enter Try.func15, Try.ntmps15
    go_wp2_with (go_at_call 26; refine M.out.mono ?_; rintro e w1 ⟨rfl, hg1⟩)
    go_ret
    exact ⟨rfl, FB.out _ hg1⟩
  cases k3 : good xs with
  | false =>
    have e1 : code s xs task ns = 1 := by simp [code, wrong, k3]
    have e2 : cre s xs task ns = s := by simp [cre, e1]
    rw [e1, e2]
    rw [k3] at SD
    clear h hp e1 e2 hs
    go_enter Try.func15, Try.ntmps15
    go_wp2_with (first
      | (go_at_call 26; refine M.out.mono ?_; rintro e w1 ⟨rfl, hg1⟩)
      | (go_at_call 27; refine (SD.out w1 hg1).mono ?_; rintro e w2 ⟨rfl, hg2⟩; replace hg1 := fresh_trans hg1 hg2; clear hg2))
    go_ret
    exact ⟨rfl, FB.out _ hg1⟩
  | true =>
    rw [k3] at SD
    have hw : wrong xs task ns = false := by simp [wrong, k1, k2, k3]
    obtain ⟨mt, mg, hP⟩ := h
    have CL : Hid (∀ w', Below w.heap.size w w' → _ ∧ _ ∧ _ ∧ _) := fun w' (hg : Below w.heap.size w w') => three (hP.fresh hg).blk
    have l0 := hs.lo
    have l1 : s.tot ≤ 9223372036854775807 := hs.hi
    by_cases k4 : top - s.tot < ns
    · have e1 : code s xs task ns = 3 := by simp only [code, hw]; rw [if_neg (by simp), if_pos k4]
      have e2 : cre s xs task ns = s := by simp [cre, e1]
      rw [e1, e2]
      clear hp e1 e2 hs hP
      have k5 : (9223372036854775807 : Int) - s.tot < ns := k4
      clear k4
      generalize s.tot = T at *
      go_enter Try.func15, Try.ntmps15
      go_wp2_with (first
        | (go_at_call 26; refine M.out.mono ?_; rintro e w1 ⟨rfl, hg1⟩)
        | (go_at_call 27; refine (SD.out w1 hg1).mono ?_; rintro e w2 ⟨rfl, hg2⟩; replace hg1 := fresh_trans hg1 hg2; clear hg2; obtain ⟨c0, c1, c2, cz⟩ := CL.out _ hg1))
      go_ret
      exact ⟨rfl, FB.out _ hg1⟩
    · have e1 : code s xs task ns = 0 := by simp only [code, hw]; rw [if_neg (by simp), if_neg k4]
      have e2 : cre s xs task ns = add s xs task ns := by simp [cre, e1]
      rw [e1, e2]
      by_cases k5 : ns = 0
      · subst k5
        rw [add_zero]
        clear hp e1 e2 hs hP k4
        generalize s.tot = T at *
        go_enter Try.func15, Try.ntmps15
        go_wp2_with (first
          | (go_at_call 26; refine M.out.mono ?_; rintro e w1 ⟨rfl, hg1⟩)
          | (go_at_call 27; refine (SD.out w1 hg1).mono ?_; rintro e w2 ⟨rfl, hg2⟩; replace hg1 := fresh_trans hg1 hg2; clear hg2; obtain ⟨c0, c1, c2, cz⟩ := CL.out _ hg1))
        go_ret
        exact ⟨rfl, FB.out _ hg1⟩
      · have hnd : xs.Nodup := by simp only [good, Bool.and_eq_true, decide_eq_true_eq] at k3; exact k3.2
        have k6 : ¬ ((9223372036854775807 : Int) - s.tot < ns) := k4
        clear k4
        have r1 := (hs.t task).1
        have r2 := (hs.t task).2
        have UP : Hid (∀ w', Below w.heap.size w w' → (Instr.lookup 54 (.map (some mt)) (.int .i64 task) false).run Try.prog w' = .ok (.int .i64 (s.t task)) w' ∧ ∃ w3, (Instr.mapUpdate 54 (.map (some mt)) (.int .i64 task) (.int .i64 (s.t task + ns))).run Try.prog w' = .ok () w3 ∧ CrI w lo hi b mt mg N n s.tot s xs (upd s.t task (s.t task + ns)) ns n (.int .i64 0) w3) := fun w' hg => by
          have hP' := hP.fresh hg
          refine ⟨hP'.t.look ⟨q1, q2⟩, ?_⟩
          obtain ⟨w3, hr, ha, hgr⟩ := hP'.t.put (i := task) (v := s.t task + ns) ⟨q1, q2⟩ (by omega) (by omega) (by simp only [maxLen]; omega)
          refine ⟨w3, hr, 0, by omega, rfl, ?_, (But.of hg).trans (But.grown hgr hP.t0 hP.t1)⟩
          rw [addG_zero]
          exact hP'.turnT hgr (by omega) ha
        have RD : Hid (∀ k wr, k < n → Parts wr lo hi b mt mg (N + 1 + k) ⟨upd s.t task (s.t task + ns), addG s.g (xs.take k) ns, s.tot⟩ → But lo hi w wr → ∃ b1 o1 x, a = some ⟨b1, o1, none⟩ ∧ wr.cell? ⟨b1, o1 + k, none⟩ = some (.int .i64 x) ∧ (-9223372036854775808 ≤ s.g x + ns ∧ s.g x + ns ≤ 9223372036854775807) ∧
            (Instr.lookup 54 (.map (some mg)) (.int .i64 x) false).run Try.prog wr = .ok (.int .i64 (s.g x)) wr ∧ ∃ w3, (Instr.mapUpdate 54 (.map (some mg)) (.int .i64 x) (.int .i64 (s.g x + ns))).run Try.prog wr = .ok () w3 ∧ CrI w lo hi b mt mg N n s.tot s xs (upd s.t task (s.t task + ns)) ns (n - (k + 1)) (.int .i64 ((k : Int) + 1)) w3) := fun k wr hk hPr hB => by
          have hlen := hp.len
          have hkx : xs[k]? = some xs[k] := List.getElem?_eq_getElem (by omega)
          generalize xs[k] = x at hkx
          obtain ⟨hx, b1, o1, e, hb0, hb1, hc⟩ := hp.at_ k x hkx
          obtain ⟨g1, g2⟩ := addG_succ s.g hnd ns hkx
          have gx := hs.g x
          have lk := hPr.g.look hx
          simp only [g1] at lk
          obtain ⟨w3, hr, ha, hgr⟩ := hPr.g.put (i := x) (v := s.g x + ns) hx (by omega) (by omega) (by simp only [maxLen]; omega)
          refine ⟨b1, o1, x, e, (World.cell?_of_block (hB.block b1 hb1 hb0)).trans hc, by omega, lk, w3, hr, k + 1, by omega, by simp, ?_, hB.trans (But.grown hgr hP.g0 hP.g1)⟩
          have := hPr.turnG (N' := N + 1 + (k + 1)) hgr (by omega) (ha.mono (by omega))
          rw [g2]
          exact this
        have hT := hP.lt
        have FIN : Hid (∀ wr, Parts wr lo hi b mt mg (N + 1 + n) ⟨upd s.t task (s.t task + ns), addG s.g (xs.take n) ns, s.tot⟩ → But lo hi w wr → (_ ∧ _ ∧ _ ∧ _) ∧ Did lo hi b (N + 1 + n) (add s xs task ns) (.int .i64 0) w (.returned (.int .i64 0)) (wr.setCell ⟨b, 2, none⟩ (.int .i64 (s.tot + ns)))) := fun wr hPr hB => by
          refine ⟨three hPr.blk, rfl, ⟨mt, mg, ?_⟩, hB.trans (But.setCell (p := ⟨b, 2, none⟩) hP.b0 hP.b1 _)⟩
          have := hPr.turnS (s.tot + ns)
          rw [← hp.len, addG_all] at this
          rw [← hp.len]
          exact this
        have PC : Hid (∀ wr N' f g, Parts wr lo hi b mt mg N' ⟨f, g, s.tot⟩ → _ ∧ _ ∧ _ ∧ _) := fun wr N' f g hPr => three hPr.blk
        have hbig := hp.big
        clear hs hP hp e1 e2 k3 hw FB hnd
        have qa : ns ≤ 9223372036854775807 - s.tot := by omega
        clear k6
        generalize s.tot = T at *
        generalize hst : s.t task = st at *
        have HST := Lib.hid hst
        clear hst
        have u1 : -9223372036854775808 ≤ st + ns := by omega
        have u2 : st + ns ≤ 9223372036854775807 := by omega
        go_enter Try.func15, Try.ntmps15
        go_wp2_with (first
          | (go_at_call 26; refine M.out.mono ?_; rintro e w1 ⟨rfl, hg1⟩)
          | (go_at_call 27; refine (SD.out w1 hg1).mono ?_; rintro e w2 ⟨rfl, hg2⟩; replace hg1 := fresh_trans hg1 hg2; clear hg2; obtain ⟨c0, c1, c2, cz⟩ := CL.out _ hg1; obtain ⟨lk0, w3, up0, H0⟩ := UP.out _ hg1; replace H0 := Lib.hid H0))
        go_loopg [46] n (fun left t46 wr => CrI w lo hi b mt mg N n T s xs (upd s.t task (st + ns)) ns left t46 wr)
        case atStart => exact H0.out
        case round =>
          clear H0 up0 lk0 c0 c1 c2 cz UP CL
          obtain ⟨k, hk, rfl, hPr, hB⟩ := hrel
          by_cases hlt : k < n
          · obtain ⟨b1, o1, x, rfl, hcx, ⟨qx, qy⟩, lk, w3, up, HN⟩ := RD.out k wr hlt hPr hB
            obtain ⟨c0, c1, c2, cz⟩ := PC.out _ _ _ _ hPr
            have i1 : (k : Int) < n := by omega
            have i2 : gk - 1 = n - (k + 1) := by omega
            replace HN := Lib.hid HN
            clear hPr hB RD FIN PC
            generalize s.g x = sx at *
            go_wp2_with fail
            go_roundg (gk - 1)
            case measure => omega
            case rel => rw [i2]; exact HN.out
          · obtain rfl : k = n := by omega
            have i1 : ¬ (k : Int) < k := by omega
            obtain ⟨⟨c0, c1, c2, cz⟩, hF⟩ := FIN.out _ hPr hB
            replace hF := Lib.hid hF
            clear hPr hB RD FIN PC
            go_wp2_with fail
            go_ret
            exact hF.out
end Go.Proofs.Ytnocgdhepmgncaa.Ledger
