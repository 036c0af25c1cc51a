/- What the function tells that package hier's way hands back, whatever is done in each round. Conditions: as each fact states them. -/
import Derived.Test.YtnnjbonejbmgdaaGreatPkI
import Derived.Test.YtnnjbonejbmgdaaGreatPkH
namespace Go.Proofs.YtnnjbonejbmgdaaGreat.Hr
open Go.ChangeShapes Go.WideShapes Go.ChangeAt Go.RowKit Tree Queue
open Go.Shelf
attribute [local go_sem] Oper.semAt_some
set_option linter.unusedVariables false
set_option linter.unusedSimpArgs false
set_option maxRecDepth 100000

def nxtP (S : Hs) (b : Nat → Nat) (id : Int) : Option Addr := match nxt id with
  | none => none
  | some j => ptrAt S b j
theorem next_ (w : World) (h : Nat) (O : Nat → Prop) (b qb : Nat → Nat) (S : Hs) (H : Hb w h O b qb S) (id : Int) (h0 : -1 ≤ id) (h1 : id < 128) :
    Calls Tryz.prog 108 #[.pointer (some ⟨h, 0, none⟩), .int .i64 id] w (Is (.pointer (nxtP S b id)) w) := by
  have hg := Below.refl w.heap.size w
  have A := Lib.hid (at_ w h O b qb S H (id / 2))
  unfold nxtP nxt
  by_cases e1 : id = -1
  · rw [if_pos (.inl e1)]
    have e2 : (id == -1) = true := by simpa using e1
    clear e1
    go_enter Tryz.func108, Tryz.ntmps108
    go_wp2
    go_ret; exact ⟨rfl, hg⟩
  · have e2 : (id == -1) = false := by simpa using e1
    by_cases e3 : id % 2 = 0
    · rw [if_pos (.inr e3)]
      have e4 : id.tmod 2 = 0 := by rw [Int.tmod_eq_emod_of_nonneg (by omega)]; exact e3
      have e5 : (id.tmod 2 == 0) = true := by simpa using e4
      clear e1 e3
      go_enter Tryz.func108, Tryz.ntmps108
      go_wp2
      go_ret; exact ⟨rfl, hg⟩
    · rw [if_neg (by omega)]
      have e4 : ¬ id.tmod 2 = 0 := by rw [Int.tmod_eq_emod_of_nonneg (by omega)]; exact e3
      have e5 : (id.tmod 2 == 0) = false := by simpa using e4
      have e6 : id.tdiv 2 = id / 2 := Int.tdiv_eq_ediv_of_nonneg (by omega)
      have e7 : (((id / 2).toNat : Nat) : Int) = id / 2 := Int.toNat_of_nonneg (by omega)
      simp only [e7]
      have e8 : (id % 2 == 0) = false := by simpa using e3
      clear e3 e4 e5 e6
      go_enter Tryz.func108, Tryz.ntmps108
      go_wp2_with (go_at_call 69; refine A.out.mono ?_; rintro e w1 ⟨rfl, hg1⟩)
      go_ret; exact ⟨rfl, hg1⟩

/-- Between two rounds: at a group that is there, or at the end. -/
def WayIC (b : Nat → Nat) (J : Hs → World → Prop) (JY : Hs → Nat → Int → World → Prop) (c : St → Int) (f : St → St) (dep : Nat → Nat) (F : Hs × Nat × Int) (k : Nat) (t : Value) (wr : World) : Prop :=
  (∃ g x S, t = .pointer (some ⟨b g, 0, none⟩) ∧ S.g g = some x ∧ J S wr ∧ GoodD dep S ∧ walkS c f k S g = F ∧ dep g + k = 9) ∨ (t = .pointer none ∧ JY F.1 F.2.1 F.2.2 wr)
set_option maxHeartbeats 8000000 in
theorem wayC_ (n : Nat) (hn : 1 ≤ n) (w : World) (h Bh Ba l : Nat) (b qb : Nat → Nat) (c : St → Int) (f : St → St) (AS : Asks c f) (dep : Nat → Nat) (J : Hs → World → Prop) (JY : Hs → Nat → Int → World → Prop)
    (hJ : ∀ S W, J S W → ∃ O, Hb W h O b qb S ∧ W.cell? ⟨Bh, 0, none⟩ = some (.pointer (some ⟨h, 0, none⟩)) ∧ W.cell? ⟨Ba, 0, none⟩ = some (.func (.func 58) #[] #[]))
    (hF : ∀ S W W', J S W → Below W.heap.size W W' → J S W') (hFY : ∀ S g id W W', JY S g id W → Below W.heap.size W W' → JY S g id W')
    (hA : ∀ S W g x, J S W → GoodD dep S → S.g g = some x → Calls Tryz.prog 58 #[.pointer (some ⟨qb g, 0, none⟩)] W (fun e W' => e = .returned (.int .i64 (c x.q)) ∧ J (curS c S g x) W'))
    (hY : ∀ S W g x, J S W → GoodD dep S → S.g g = some x → YieldAt Fence.wide (n - 1) Tryz.prog l #[.pointer (some ⟨qb g, 0, none⟩), .int .i64 x.q.cur] W (fun e W' => e = .returned (.bool true) ∧ JY (bodS f S g x) g x.q.cur W'))
    (hJY : ∀ S g id W, JY S g id W → J S W)
    (S : Hs) (hG : GoodD dep S) (h0 : J S w) :
    CallsIn Fence.wide n Tryz.prog 107 (#[.func (.yield l) #[] #[]] ++ #[.pointer (some ⟨Bh, 0, none⟩), .pointer (some ⟨Ba, 0, none⟩)]) w
      (fun e W' => (∃ v, e = .returned v) ∧ JY (walkS c f 9 S 0).1 (walkS c f 9 S 0).2.1 (walkS c f 9 S 0).2.2 W') := by
  obtain ⟨r, hr, hru, hro⟩ := hG.root
  have st : Hid (∀ w', Below w.heap.size w w' → WayIC b J JY c f dep (walkS c f 9 S 0) 9 (.pointer (some ⟨b 0, 0, none⟩)) w') := Lib.hid fun w' hg => .inl ⟨0, r, S, rfl, hr, hF _ _ _ h0 hg, hG, rfl, by rw [hG.dep0]⟩
  obtain ⟨O, H, c1, c2⟩ := hJ _ _ h0
  have A := Lib.hid (at_ w h O b qb S H 0)
  have hp : ptrAt S b (0 : Int) = some (toG b 0) := by have := ptrAt_nat (S := S) (b := b) (i := 0) (by omega); rw [show ((0 : Nat) : Int) = 0 from rfl] at this; rw [this, ptrG_some hr]
  rw [hp] at A
  unfold toG at A
  have HJ := Lib.hid hJ
  have HF := Lib.hid hF
  have HA := Lib.hid hA
  have HY := Lib.hid hY
  have HJY := Lib.hid hJY
  have HFY := Lib.hid hFY
  clear hJ hF hA hY hJY hFY H h0 hr hru hro hG hp r
  generalize walkS c f 9 S 0 = F at *
  refine callsIn_wide.2 ?_
  simp only [List.push_toArray, List.append_toArray, List.cons_append, List.nil_append]
  go_enter Tryz.func107, Tryz.ntmps107
  go_wp2_with (go_at_call 69; refine A.out.mono ?_; rintro e w1 ⟨rfl, hg1⟩)
  have st1 := Lib.hid (st.out w1 hg1)
  clear st A c1 c2 hg1 S
  go_loopg [4, 5] 9 (fun k t _ wr => WayIC b J JY c f dep F k t wr)
  case atStart => exact st1.out
  case round =>
    clear st1
    rcases hrel with ⟨g, x, S, rfl, hx, hj, hG, hF, hd⟩ | ⟨rfl, hj⟩
    · have hd8 := hG.deep g x hx
      obtain ⟨k, rfl⟩ : ∃ k, gk = k + 1 := ⟨gk - 1, by omega⟩
      obtain ⟨O1, H1, c1, c2⟩ := HJ.out _ _ hj
      obtain ⟨_, d1, _⟩ := H1.cells hx
      have AK := Lib.hid (HA.out _ wr.drew g x (HF.out _ _ _ hj (drew_below wr)) hG hx)
      have hGc := AS.curG hG hx
      have hGb := AS.good hGc (cur_get c S g x)
      rw [bod_cur] at hGb
      have hxc := cur_get c S g x
      have hask := AS.ask x.q (hG.q g x hx) (hG.cur g x hx)
      have hb1 : -1 ≤ c x.q ∧ c x.q < 128 := by
        rcases hask.2 with e | e
        · omega
        · obtain ⟨y, hy, hid⟩ := named_of e
          have := (hG.q g x hx).each y hy
          have := hG.ids g x hx y hy
          omega
      go_wp2_with fail
      go_region_held3 (fun w' => w'.cell? ⟨Ba, 0, none⟩ = some (.func (.func 58) #[] #[]) ∧ w'.cell? ⟨b g, 1, none⟩ = some (.pointer (some ⟨qb g, 0, none⟩))) (first | exact ⟨c2, d1⟩ | exact ⟨l2, l1⟩)
        (first
          | (go_at_call 58; refine AK.out.mono ?_; rintro e w5 ⟨rfl, hj5⟩; obtain ⟨O5, H5, l0, l2⟩ := HJ.out _ _ hj5; obtain ⟨_, l1, _⟩ := H5.cells hxc))
      obtain ⟨fn, tmps, assign, body, hy, hR⟩ := HY.out _ w5 g _ hj5 hGc hxc
      rw [bod_cur] at hR
      simp only at hy hR
      have HN : Hid (∀ W', JY (S.set g (some { x with q := f { x.q with cur := c x.q } })) g (c x.q) W' → ∃ O6, Hb W' h O6 b qb (S.set g (some { x with q := f { x.q with cur := c x.q } })) ∧ W'.cell? ⟨Bh, 0, none⟩ = some (.pointer (some ⟨h, 0, none⟩))) := Lib.hid fun W' hq => by
        obtain ⟨O6, H6, e6, _⟩ := HJ.out _ _ (HJY.out _ _ _ _ hq)
        exact ⟨O6, H6, e6⟩
      have FIN : Hid (∀ W', JY (S.set g (some { x with q := f { x.q with cur := c x.q } })) g (c x.q) W' → WayIC b J JY c f dep F k (.pointer (nxtP (S.set g (some { x with q := f { x.q with cur := c x.q } })) b (c x.q))) W') := Lib.hid fun W' hq => by
        unfold nxtP
        cases hn : nxt (c x.q) with
        | none =>
          rw [walk_none hx hn] at hF
          refine .inr ⟨rfl, ?_⟩
          rw [← hF]; exact hq
        | some j =>
          rw [walk_some hx hn] at hF
          obtain ⟨y, e1, e2, e3, e4, e5, e6, e7⟩ := hG.next hx hask.2 hn
          have e1' : (S.set g (some { x with q := f { x.q with cur := c x.q } })).g j = some y := by rw [Hs.set_other _ _ e5]; exact e1
          refine .inl ⟨j, y, _, ?_, e1', HJY.out _ _ _ _ hq, hGb, hF, by omega⟩
          simp only [ptrAt_nat e7, ptrG_some e1']
          rfl
      clear hj hx hG hF hGc hGb hxc hask H1 H5 hj5 AK
      generalize S.set g (some { x with q := f { x.q with cur := c x.q } }) = S1 at *
      generalize c x.q = id at *
      generalize hnp : nxtP S1 b id = np at *
      go_upto_region 3 with fail
      refine (wpIn_wide (n := n)).1 ?_
      gi_wp2
      refine hR.mono ?_
      rintro e w6 ⟨rfl, hq6⟩
      obtain ⟨O6, H6, c6⟩ := HN.out _ hq6
      have NX := Lib.hid (next_ w6 h O6 b qb S1 H6 id hb1.1 hb1.2)
      rw [hnp] at NX
      clear hnp
      gi_wp2
      go_wp2_with (go_at_call 108; refine NX.out.mono ?_; rintro e w7 ⟨rfl, hg7⟩)
      go_roundg k
      case measure => omega
      case rel => exact FIN.out _ (HFY.out _ _ _ _ _ hq6 hg7)
    · go_wp2_with fail
      go_end0
      exact ⟨⟨_, rfl⟩, hj⟩

/-- Between two rounds: at a group that is there, or at the end. -/
def WayIP (b : Nat → Nat) (J : Hs → World → Prop) (JY : Hs → Nat → Int → World → Prop) (c : St → Int) (f : St → St) (dep : Nat → Nat) (F : Hs × Nat × Int) (k : Nat) (t : Value) (wr : World) : Prop :=
  (∃ g x S, t = .pointer (some ⟨b g, 0, none⟩) ∧ S.g g = some x ∧ J S wr ∧ GoodD dep S ∧ walkS c f k S g = F ∧ dep g + k = 9) ∨ (t = .pointer none ∧ JY F.1 F.2.1 F.2.2 wr)
set_option maxHeartbeats 8000000 in
theorem wayP_ (n : Nat) (hn : 1 ≤ n) (w : World) (h Bh Ba l : Nat) (b qb : Nat → Nat) (c : St → Int) (f : St → St) (AS : Asks c f) (dep : Nat → Nat) (J : Hs → World → Prop) (JY : Hs → Nat → Int → World → Prop) (Bp : Nat)
    (hJ : ∀ S W, J S W → ∃ O, Hb W h O b qb S ∧ W.cell? ⟨Bh, 0, none⟩ = some (.pointer (some ⟨h, 0, none⟩)) ∧ W.cell? ⟨Ba, 0, none⟩ = some (.func (.func 85) #[] #[.pointer (some ⟨Bp, 0, none⟩)]))
    (hF : ∀ S W W', J S W → Below W.heap.size W W' → J S W') (hFY : ∀ S g id W W', JY S g id W → Below W.heap.size W W' → JY S g id W')
    (hA : ∀ S W g x, J S W → GoodD dep S → S.g g = some x → Calls Tryz.prog 85 #[.pointer (some ⟨qb g, 0, none⟩), .pointer (some ⟨Bp, 0, none⟩)] W (fun e W' => e = .returned (.int .i64 (c x.q)) ∧ J (curS c S g x) W'))
    (hY : ∀ S W g x, J S W → GoodD dep S → S.g g = some x → YieldAt Fence.wide (n - 1) Tryz.prog l #[.pointer (some ⟨qb g, 0, none⟩), .int .i64 x.q.cur] W (fun e W' => e = .returned (.bool true) ∧ JY (bodS f S g x) g x.q.cur W'))
    (hJY : ∀ S g id W, JY S g id W → J S W)
    (S : Hs) (hG : GoodD dep S) (h0 : J S w) :
    CallsIn Fence.wide n Tryz.prog 107 (#[.func (.yield l) #[] #[]] ++ #[.pointer (some ⟨Bh, 0, none⟩), .pointer (some ⟨Ba, 0, none⟩)]) w
      (fun e W' => (∃ v, e = .returned v) ∧ JY (walkS c f 9 S 0).1 (walkS c f 9 S 0).2.1 (walkS c f 9 S 0).2.2 W') := by
  obtain ⟨r, hr, hru, hro⟩ := hG.root
  have st : Hid (∀ w', Below w.heap.size w w' → WayIP b J JY c f dep (walkS c f 9 S 0) 9 (.pointer (some ⟨b 0, 0, none⟩)) w') := Lib.hid fun w' hg => .inl ⟨0, r, S, rfl, hr, hF _ _ _ h0 hg, hG, rfl, by rw [hG.dep0]⟩
  obtain ⟨O, H, c1, c2⟩ := hJ _ _ h0
  have A := Lib.hid (at_ w h O b qb S H 0)
  have hp : ptrAt S b (0 : Int) = some (toG b 0) := by have := ptrAt_nat (S := S) (b := b) (i := 0) (by omega); rw [show ((0 : Nat) : Int) = 0 from rfl] at this; rw [this, ptrG_some hr]
  rw [hp] at A
  unfold toG at A
  have HJ := Lib.hid hJ
  have HF := Lib.hid hF
  have HA := Lib.hid hA
  have HY := Lib.hid hY
  have HJY := Lib.hid hJY
  have HFY := Lib.hid hFY
  clear hJ hF hA hY hJY hFY H h0 hr hru hro hG hp r
  generalize walkS c f 9 S 0 = F at *
  refine callsIn_wide.2 ?_
  simp only [List.push_toArray, List.append_toArray, List.cons_append, List.nil_append]
  go_enter Tryz.func107, Tryz.ntmps107
  go_wp2_with (go_at_call 69; refine A.out.mono ?_; rintro e w1 ⟨rfl, hg1⟩)
  have st1 := Lib.hid (st.out w1 hg1)
  clear st A c1 c2 hg1 S
  go_loopg [4, 5] 9 (fun k t _ wr => WayIP b J JY c f dep F k t wr)
  case atStart => exact st1.out
  case round =>
    clear st1
    rcases hrel with ⟨g, x, S, rfl, hx, hj, hG, hF, hd⟩ | ⟨rfl, hj⟩
    · have hd8 := hG.deep g x hx
      obtain ⟨k, rfl⟩ : ∃ k, gk = k + 1 := ⟨gk - 1, by omega⟩
      obtain ⟨O1, H1, c1, c2⟩ := HJ.out _ _ hj
      obtain ⟨_, d1, _⟩ := H1.cells hx
      have AK := Lib.hid (HA.out _ wr.drew g x (HF.out _ _ _ hj (drew_below wr)) hG hx)
      have hGc := AS.curG hG hx
      have hGb := AS.good hGc (cur_get c S g x)
      rw [bod_cur] at hGb
      have hxc := cur_get c S g x
      have hask := AS.ask x.q (hG.q g x hx) (hG.cur g x hx)
      have hb1 : -1 ≤ c x.q ∧ c x.q < 128 := by
        rcases hask.2 with e | e
        · omega
        · obtain ⟨y, hy, hid⟩ := named_of e
          have := (hG.q g x hx).each y hy
          have := hG.ids g x hx y hy
          omega
      go_wp2_with fail
      go_region_held3 (fun w' => w'.cell? ⟨Ba, 0, none⟩ = some (.func (.func 85) #[] #[.pointer (some ⟨Bp, 0, none⟩)]) ∧ w'.cell? ⟨b g, 1, none⟩ = some (.pointer (some ⟨qb g, 0, none⟩))) (first | exact ⟨c2, d1⟩ | exact ⟨l2, l1⟩)
        (first
          | (go_at_call 85; refine AK.out.mono ?_; rintro e w5 ⟨rfl, hj5⟩; obtain ⟨O5, H5, l0, l2⟩ := HJ.out _ _ hj5; obtain ⟨_, l1, _⟩ := H5.cells hxc))
      obtain ⟨fn, tmps, assign, body, hy, hR⟩ := HY.out _ w5 g _ hj5 hGc hxc
      rw [bod_cur] at hR
      simp only at hy hR
      have HN : Hid (∀ W', JY (S.set g (some { x with q := f { x.q with cur := c x.q } })) g (c x.q) W' → ∃ O6, Hb W' h O6 b qb (S.set g (some { x with q := f { x.q with cur := c x.q } })) ∧ W'.cell? ⟨Bh, 0, none⟩ = some (.pointer (some ⟨h, 0, none⟩))) := Lib.hid fun W' hq => by
        obtain ⟨O6, H6, e6, _⟩ := HJ.out _ _ (HJY.out _ _ _ _ hq)
        exact ⟨O6, H6, e6⟩
      have FIN : Hid (∀ W', JY (S.set g (some { x with q := f { x.q with cur := c x.q } })) g (c x.q) W' → WayIP b J JY c f dep F k (.pointer (nxtP (S.set g (some { x with q := f { x.q with cur := c x.q } })) b (c x.q))) W') := Lib.hid fun W' hq => by
        unfold nxtP
        cases hn : nxt (c x.q) with
        | none =>
          rw [walk_none hx hn] at hF
          refine .inr ⟨rfl, ?_⟩
          rw [← hF]; exact hq
        | some j =>
          rw [walk_some hx hn] at hF
          obtain ⟨y, e1, e2, e3, e4, e5, e6, e7⟩ := hG.next hx hask.2 hn
          have e1' : (S.set g (some { x with q := f { x.q with cur := c x.q } })).g j = some y := by rw [Hs.set_other _ _ e5]; exact e1
          refine .inl ⟨j, y, _, ?_, e1', HJY.out _ _ _ _ hq, hGb, hF, by omega⟩
          simp only [ptrAt_nat e7, ptrG_some e1']
          rfl
      clear hj hx hG hF hGc hGb hxc hask H1 H5 hj5 AK
      generalize S.set g (some { x with q := f { x.q with cur := c x.q } }) = S1 at *
      generalize c x.q = id at *
      generalize hnp : nxtP S1 b id = np at *
      go_upto_region 3 with fail
      refine (wpIn_wide (n := n)).1 ?_
      gi_wp2
      refine hR.mono ?_
      rintro e w6 ⟨rfl, hq6⟩
      obtain ⟨O6, H6, c6⟩ := HN.out _ hq6
      have NX := Lib.hid (next_ w6 h O6 b qb S1 H6 id hb1.1 hb1.2)
      rw [hnp] at NX
      clear hnp
      gi_wp2
      go_wp2_with (go_at_call 108; refine NX.out.mono ?_; rintro e w7 ⟨rfl, hg7⟩)
      go_roundg k
      case measure => omega
      case rel => exact FIN.out _ (HFY.out _ _ _ _ _ hq6 hg7)
    · go_wp2_with fail
      go_end0
      exact ⟨⟨_, rfl⟩, hj⟩
end Go.Proofs.YtnnjbonejbmgdaaGreat.Hr

/- What package hier's end tells, and Running, Pick and Yield. Conditions: the queues are sound. -/
namespace Go.Proofs.YtnnjbonejbmgdaaGreat.Hr
open Go.ChangeShapes Go.WideShapes Go.ChangeAt Go.RowKit Tree Queue
open Go.Shelf
attribute [local go_sem] Oper.semAt_some
set_option linter.unusedVariables false
set_option linter.unusedSimpArgs false
set_option maxRecDepth 100000

def Holds (W : World) (k : Nat) (v : Value) : Prop := ∃ t, W.heap[k]? = some (.cells #[v] t (0, 0))
theorem Holds.cell {W : World} {k : Nat} {v : Value} (h : Holds W k v) : W.cell? ⟨k, 0, none⟩ = some v := by obtain ⟨t, h⟩ := h; rw [cell_of_row W k _ _ _ _ h]; rfl
theorem Holds.frozen {W : World} {k : Nat} {v : Value} (h : Holds W k v) : W.frozen? ⟨k, 0, none⟩ = false := by obtain ⟨t, h⟩ := h; exact frozen_of_row W k _ _ _ h
theorem Holds.on {W W' : World} {k : Nat} {v : Value} (h : Holds W k v) (e : W'.heap[k]? = W.heap[k]?) : Holds W' k v := by obtain ⟨t, h⟩ := h; exact ⟨t, e.trans h⟩
theorem Holds.set {W : World} {k : Nat} {v : Value} (h : Holds W k v) (u : Value) : Holds (W.setCell ⟨k, 0, none⟩ u) k u := by
  obtain ⟨t, h⟩ := h
  exact ⟨t, by rw [heap_setCell_same W k 0 _ _ _ h]; rfl⟩
theorem Holds.lt {W : World} {k : Nat} {v : Value} (h : Holds W k v) : k < W.heap.size := by obtain ⟨t, h⟩ := h; exact lt_of h
theorem way_ (w : World) (h : Nat) (fk : Nat) (caps : Array Value) : Calls Tryz.prog 63 #[.pointer (some ⟨h, 0, none⟩), .func (.func fk) #[] caps] w
    (fun e w' => e = .returned (.func (.func 107) #[] #[.pointer (some ⟨w.heap.size, 0, none⟩), .pointer (some ⟨w.heap.size + 1, 0, none⟩)]) ∧ w' = (w.alloc (.cells #[.pointer (some ⟨h, 0, none⟩)] 25)).alloc (.cells #[.func (.func fk) #[] caps] 110)) := by
  have hmf : ∀ (fn : Fn) (first cap : Array Value) (w : World), (Instr.makeFunc fn first cap).run Tryz.prog w = .ok (.func fn first cap) w := fun _ _ _ _ => rfl
  go_enter Tryz.func63, Tryz.ntmps63
  go_wp2
  go_ret
  exact ⟨rfl, rfl⟩
/-- O, and the six blocks that end lays. -/
def Oo (O : Nat → Prop) (z : Nat) : Nat → Prop := fun k => O k ∨ (z ≤ k ∧ k < z + 6)
/-- On the way through end. -/
structure EJ (w : World) (h : Nat) (O : Nat → Prop) (b qb : Nat → Nat) (ask : Value) (ro : Obj) (S : Hs) (p1 i2 : Value) (W : World) : Prop where
  k : Hb W h (Oo O w.heap.size) b qb S
  old : ∀ k, Oo O w.heap.size k → k < W.heap.size
  hO : ∀ k, O k → k < w.heap.size
  same : Same O w W
  b1 : Holds W w.heap.size p1
  b2 : Holds W (w.heap.size + 1) i2
  b3 : Holds W (w.heap.size + 2) (.pointer (some ⟨h, 0, none⟩))
  b4 : Holds W (w.heap.size + 3) ask
  dD : W.heap[w.heap.size + 4]? = some (.deferred (some []))
  lL : W.heap[w.heap.size + 5]? = some ro
section
variable {w W W' : World} {h : Nat} {O : Nat → Prop} {b qb : Nat → Nat} {ask : Value} {ro : Obj} {S S' : Hs} {p1 i2 : Value}
theorem EJ.did (E : EJ w h O b qb ask ro S p1 i2 W) (K : Hb W' h (Oo O w.heap.size) b qb S') (s : Same (Oo O w.heap.size) W W') : EJ w h O b qb ask ro S' p1 i2 W' :=
  ⟨K, fun k hk => Nat.lt_of_lt_of_le (E.old k hk) s.size, E.hO, E.same.trans (s.mono fun k hk => .inl hk), E.b1.on (s.block _ (.inr (by omega))), E.b2.on (s.block _ (.inr (by omega))), E.b3.on (s.block _ (.inr (by omega))), E.b4.on (s.block _ (.inr (by omega))), (s.block _ (.inr (by omega))).trans E.dD, (s.block _ (.inr (by omega))).trans E.lL⟩
theorem EJ.fresh (E : EJ w h O b qb ask ro S p1 i2 W) (hg : Below W.heap.size W W') : EJ w h O b qb ask ro S p1 i2 W' := E.did (E.k.fresh hg) (Same.of hg E.old)
theorem EJ.store1 (E : EJ w h O b qb ask ro S p1 i2 W) (v : Value) : EJ w h O b qb ask ro S v i2 (W.setCell ⟨w.heap.size, 0, none⟩ v) := by
  have ne : ∀ k, k ≠ w.heap.size → (W.setCell ⟨w.heap.size, 0, none⟩ v).heap[k]? = W.heap[k]? := fun k hk => Below.heap_setCell _ _ _ _ hk
  refine ⟨E.k.away (p := ⟨w.heap.size, 0, none⟩) (.inr (by simp)) _, fun k hk => by rw [size_setCell]; exact E.old k hk, E.hO, E.same.trans (Same.setCell (p := ⟨w.heap.size, 0, none⟩) (fun e => Nat.lt_irrefl _ (E.hO _ e)) _), E.b1.set v, E.b2.on (ne _ (by omega)), E.b3.on (ne _ (by omega)), E.b4.on (ne _ (by omega)), (ne _ (by omega)).trans E.dD, (ne _ (by omega)).trans E.lL⟩
theorem EJ.store2 (E : EJ w h O b qb ask ro S p1 i2 W) (v : Value) : EJ w h O b qb ask ro S p1 v (W.setCell ⟨w.heap.size + 1, 0, none⟩ v) := by
  have ne : ∀ k, k ≠ w.heap.size + 1 → (W.setCell ⟨w.heap.size + 1, 0, none⟩ v).heap[k]? = W.heap[k]? := fun k hk => Below.heap_setCell _ _ _ _ hk
  refine ⟨E.k.away (p := ⟨w.heap.size + 1, 0, none⟩) (.inr (by constructor <;> simp)) _, fun k hk => by rw [size_setCell]; exact E.old k hk, E.hO, E.same.trans (Same.setCell (p := ⟨w.heap.size + 1, 0, none⟩) (fun e => by have e' : O (w.heap.size + 1) := e; have := E.hO _ e'; omega) _), E.b1.on (ne _ (by omega)), E.b2.set v, E.b3.on (ne _ (by omega)), E.b4.on (ne _ (by omega)), (ne _ (by omega)).trans E.dD, (ne _ (by omega)).trans E.lL⟩
theorem EJ.putL (E : EJ w h O b qb ask ro S p1 i2 W) (bo : Obj) : EJ w h O b qb ask bo S p1 i2 (W.putObj (w.heap.size + 5) bo) := by
  have ne : ∀ k, k ≠ w.heap.size + 5 → (W.putObj (w.heap.size + 5) bo).heap[k]? = W.heap[k]? := fun k hk => World.putObj_heap_other hk
  have sz : (W.putObj (w.heap.size + 5) bo).heap.size = W.heap.size := by simp [World.putObj]
  refine ⟨E.k.keep fun k _ hk => ne k (fun e => hk (.inr (by omega))), fun k hk => by rw [sz]; exact E.old k hk, E.hO, E.same.trans ⟨rfl, rfl, rfl, by rw [sz]; exact Nat.le_refl _, fun k hk => ne k (fun e => by have := E.hO k hk; omega)⟩, E.b1.on (ne _ (by omega)), E.b2.on (ne _ (by omega)), E.b3.on (ne _ (by omega)), E.b4.on (ne _ (by omega)), (ne _ (by omega)).trans E.dD, World.putObj_heap_same (lt_of E.lL)⟩
end
/-- What end told. -/
def EndP (F : Hs × Nat × Int) (h : Nat) (O : Nat → Prop) (b qb : Nat → Nat) (w : World) (e : Ending) (w' : World) : Prop :=
  e = .returned (.tuple #[.pointer (some ⟨qb F.2.1, 0, none⟩), .int .i64 (taskS F.2.2)]) ∧ Hb w' h O b qb F.1 ∧ Same O w w'
theorem pick1_ (w : World) (h Bp : Nat) (O : Nat → Prop) (b qb : Nat → Nat) (S : Hs) (H : Hb w h O b qb S) (hO : ∀ k, O k → k < w.heap.size) {dep : Nat → Nat} (hG : GoodD dep S) (hB : w.cell? ⟨Bp, 0, none⟩ = some (.pointer (some ⟨h, 0, none⟩))) {g : Nat} {x : Gp} (hx : S.g g = some x) :
    Calls Tryz.prog 85 #[.pointer (some ⟨qb g, 0, none⟩), .pointer (some ⟨Bp, 0, none⟩)] w (DidH (.int .i64 (chosen x.q S.gr)) (curS (fun st => chosen st S.gr) S g x) h O b qb w) := by
  have hs := hG.q g x hx
  have PK : Hid (∀ w1, Hb w1 h O b qb S → (∀ k, O k → k < w1.heap.size) → Calls Tryz.prog 86 #[.pointer (some ⟨qb g, 0, none⟩), .int .i64 S.gr] w1 (DidH (.int .i64 (chosen x.q S.gr)) (curS (fun st => chosen st S.gr) S g x) h O b qb w1)) := by
    refine Lib.hid fun w1 K hk => ?_
    obtain ⟨Oq, q1, q2, q3, q4⟩ := K.que hk hx
    refine (picks w1 (qb g) Oq x.q S.gr q1 q2 hs.once hs.cur hG.gr (sound_few hs).2.2.2).mono ?_
    rintro e w2 ⟨rfl, g1, g2⟩
    exact ⟨rfl, q4 _ _ g1 g2, g2.mono q3⟩
  obtain ⟨_, c1, _, _⟩ := H.top
  have K := PK.out w H hO
  clear PK hG hs H hO hx
  generalize chosen x.q S.gr = id at *
  generalize curS (fun st => chosen st S.gr) S g x = S1 at *
  generalize S.gr = gr at *
  go_enter Tryz.func85, Tryz.ntmps85
  go_wp2_with (go_at_call 86; refine K.mono ?_; rintro e w1 ⟨rfl, K1, s1⟩)
  go_ret; exact ⟨rfl, K1, s1⟩
theorem current_ (w : World) (h : Nat) (O : Nat → Prop) (b qb : Nat → Nat) (S : Hs) (H : Hb w h O b qb S) {g : Nat} {x : Gp} (hx : S.g g = some x) :
    Calls Tryz.prog 58 #[.pointer (some ⟨qb g, 0, none⟩)] w (Is (.int .i64 x.q.cur) w) := currents w (qb g) _ x.q (que_at H hx)
theorem curS_cur (S : Hs) {g : Nat} {x : Gp} (hx : S.g g = some x) : curS (fun st => st.cur) S g x = S := by
  unfold curS
  exact set_self hx
theorem bodS_id (S : Hs) {g : Nat} {x : Gp} (hx : S.g g = some x) : bodS id S g x = S := by
  unfold bodS
  exact set_self hx

set_option maxHeartbeats 8000000 in
theorem endC_ (w : World) (h : Nat) (O : Nat → Prop) (b qb : Nat → Nat) (S : Hs) (H : Hb w h O b qb S) (hO : ∀ k, O k → k < w.heap.size) {dep : Nat → Nat} (hG : GoodD dep S) :
    Calls Tryz.prog 57 #[.pointer (some ⟨h, 0, none⟩), .func (.func 58) #[] #[]] w (EndP (walkS (fun st => st.cur) id 9 S 0) h O b qb w) := by
  have TO := Lib.hid (fun n w h0 h1 => taskOf_ n w h0 h1)
  obtain ⟨F, hF⟩ : ∃ F, F = walkS (fun st => st.cur) id 9 S 0 := ⟨_, rfl⟩
  rw [← hF]
  refine (callsIn_wide (n := 3)).1 ?_
  refine callsIn_of_wp_marks Tryz.func57 rfl trivial ?_ rfl
  simp only [Tryz.ntmps57, List.size_toArray, List.length_cons, List.length_nil, Nat.reduceAdd, Nat.reduceSub, Array.replicate_succ, Array.replicate_zero, List.push_toArray, List.append_toArray, List.nil_append, List.cons_append]
  gi_wp2_with (refine ⟨trivial, ?_⟩; gi_at_call 63; refine (callsIn_wide.2 (way_ _ h _ _)).mono ?_; rintro e w' ⟨rfl, rfl⟩)
  have a1 := alloc1 w (.cells #[.pointer none] 85)
  have E0 : ∀ ro : Obj, EJ w h O b qb (.func (.func 58) #[] #[]) ro S (.pointer none) (.int .i64 (-1)) ((((((w.alloc (.cells #[.pointer none] 85)).alloc (.cells #[.int .i64 (-1)] 3)).alloc (.cells #[.pointer (some ⟨h, 0, none⟩)] 25)).alloc (.cells #[.func (.func 58) #[] #[]] 110)).alloc (.deferred (some []))).alloc ro) := by
    intro ro
    obtain ⟨W1, h1⟩ : ∃ W1, w.alloc (.cells #[.pointer none] 85) = W1 := ⟨_, rfl⟩
    obtain ⟨W2, h2⟩ : ∃ W2, W1.alloc (.cells #[.int .i64 (-1)] 3) = W2 := ⟨_, rfl⟩
    obtain ⟨W3, h3⟩ : ∃ W3, W2.alloc (.cells #[.pointer (some ⟨h, 0, none⟩)] 25) = W3 := ⟨_, rfl⟩
    obtain ⟨W4, h4⟩ : ∃ W4, W3.alloc (.cells #[.func (.func 58) #[] #[]] 110) = W4 := ⟨_, rfl⟩
    obtain ⟨W5, h5⟩ : ∃ W5, W4.alloc (.deferred (some [])) = W5 := ⟨_, rfl⟩
    obtain ⟨W6, h6⟩ : ∃ W6, W5.alloc ro = W6 := ⟨_, rfl⟩
    have s1 : W1.heap.size = w.heap.size + 1 := by rw [← h1]; simp
    have s2 : W2.heap.size = w.heap.size + 2 := by rw [← h2]; simp; omega
    have s3 : W3.heap.size = w.heap.size + 3 := by rw [← h3]; simp; omega
    have s4 : W4.heap.size = w.heap.size + 4 := by rw [← h4]; simp; omega
    have s5 : W5.heap.size = w.heap.size + 5 := by rw [← h5]; simp; omega
    have s6 : W6.heap.size = w.heap.size + 6 := by rw [← h6]; simp; omega
    have n1 : W1.heap[w.heap.size]? = some (.cells #[.pointer none] 85 (0, 0)) := by rw [← h1]; exact heap_alloc_new w _
    have n2 : W2.heap[w.heap.size + 1]? = some (.cells #[.int .i64 (-1)] 3 (0, 0)) := by rw [← h2, ← s1]; exact heap_alloc_new W1 _
    have n3 : W3.heap[w.heap.size + 2]? = some (.cells #[.pointer (some ⟨h, 0, none⟩)] 25 (0, 0)) := by rw [← h3, ← s2]; exact heap_alloc_new W2 _
    have n4 : W4.heap[w.heap.size + 3]? = some (.cells #[.func (.func 58) #[] #[]] 110 (0, 0)) := by rw [← h4, ← s3]; exact heap_alloc_new W3 _
    have n5 : W5.heap[w.heap.size + 4]? = some (.deferred (some [])) := by rw [← h5, ← s4]; exact heap_alloc_new W4 _
    have n6 : W6.heap[w.heap.size + 5]? = some ro := by rw [← h6, ← s5]; exact heap_alloc_new W5 _
    have g1 : Below w.heap.size w W1 := by rw [← h1]; exact alloc1 w _
    have g2 : Below W1.heap.size W1 W2 := by rw [← h2]; exact alloc1 W1 _
    have g3 : Below W2.heap.size W2 W3 := by rw [← h3]; exact alloc1 W2 _
    have g4 : Below W3.heap.size W3 W4 := by rw [← h4]; exact alloc1 W3 _
    have g5 : Below W4.heap.size W4 W5 := by rw [← h5]; exact alloc1 W4 _
    have g6 : Below W5.heap.size W5 W6 := by rw [← h6]; exact alloc1 W5 _
    have g56 := ft g5 g6
    have g46 := ft g4 g56
    have g36 := ft g3 g46
    have g26 := ft g2 g36
    have g16 := ft g1 g26
    rw [h1, h2, h3, h4, h5, h6]
    refine ⟨(H.other (O' := Oo O w.heap.size) fun k hk => hk.imp id (fun e => e.1)).fresh g16, ?_, hO, Same.of g16 hO, ⟨_, (g26.block _ (by omega)).trans n1⟩, ⟨_, (g36.block _ (by omega)).trans n2⟩, ⟨_, (g46.block _ (by omega)).trans n3⟩, ⟨_, (g56.block _ (by omega)).trans n4⟩, (g6.block _ (by omega)).trans n5, n6⟩
    rintro k (hk | hk)
    · have := hO k hk; omega
    · omega
  obtain ⟨W0, hW0⟩ : ∃ W0, (((w.alloc (.cells #[.pointer none] 85)).alloc (.cells #[.int .i64 (-1)] 3)).alloc (.cells #[.pointer (some ⟨h, 0, none⟩)] 25)).alloc (.cells #[.func (.func 58) #[] #[]] 110) = W0 := ⟨_, rfl⟩
  have hs0 : W0.heap.size = w.heap.size + 4 := by rw [← hW0]; simp
  rw [hW0] at E0 ⊢
  have hsz2 : ((w.alloc (.cells #[.pointer none] 85)).alloc (.cells #[.int .i64 (-1)] 3)).heap.size = w.heap.size + 2 := by simp
  simp only [World.size_alloc, Nat.add_assoc, Nat.reduceAdd]
  clear a1 hW0 hsz2
  have hbd : ∀ S1 g x, GoodD dep S1 → S1.g g = some x → -1 ≤ x.q.cur ∧ x.q.cur < 128 := fun S1 g x hG1 hx => by
    rcases hG1.cur g x hx with e | e
    · omega
    · obtain ⟨y, hy, hid⟩ := named_of e
      have := (hG1.q g x hx).each y hy
      have := hG1.ids g x hx y hy
      omega
  have HO := Lib.hid hO
  refine range_on (n := 3) (w := W0) (by omega) (gf := 107) (lb := #[.pointer (some ⟨w.heap.size + 2, 0, none⟩), .pointer (some ⟨w.heap.size + 3, 0, none⟩)]) rfl (enters_of Tryz.func107 (by kernel_rfl) rfl)
    (fun W => ∃ ro, EJ w h O b qb (.func (.func 58) #[] #[]) ro F.1 (.pointer (some ⟨qb F.2.1, 0, none⟩)) (.int .i64 F.2.2) W ∧ -1 ≤ F.2.2 ∧ F.2.2 < 128) ?hit ?hdone
  case hit =>
    intro ro bo _ _ hround
    rw [hs0] at hround ⊢
    rw [hF]
    refine (wayC_ (3 - 1) (by omega) _ h (w.heap.size + 2) (w.heap.size + 3) (w.heap.size + 4 + 1) b qb (fun st => st.cur) id asks_cur dep
      (fun S1 W => S1.gr = S.gr ∧ ∃ v i, EJ w h O b qb (.func (.func 58) #[] #[]) ro S1 (.pointer v) (.int .i64 i) W)
      (fun S1 g i W => S1.gr = S.gr ∧ EJ w h O b qb (.func (.func 58) #[] #[]) ro S1 (.pointer (some ⟨qb g, 0, none⟩)) (.int .i64 i) W ∧ -1 ≤ i ∧ i < 128)
       ?_ ?_ ?_ ?_ ?_ ?_ S hG ⟨rfl, _, _, E0 ro⟩).mono ?_
    · rintro S1 W ⟨_, v, i, E⟩
      exact ⟨_, E.k, E.b3.cell, E.b4.cell⟩
    · rintro S1 W W' ⟨hgr, v, i, E⟩ hg
      exact ⟨hgr, v, i, E.fresh hg⟩
    · rintro S1 g i W W' ⟨hgr, E, hb⟩ hg
      exact ⟨hgr, E.fresh hg, hb⟩
    · rintro S1 W g x ⟨hgr, v, i, E⟩ hG1 hx
      refine (current_ W h _ b qb S1 E.k hx).mono ?_
      rintro e W' ⟨rfl, hg⟩
      exact ⟨rfl, by rw [curS_cur S1 hx]; exact ⟨hgr, v, i, E.fresh hg⟩⟩
    · rintro S1 W g x ⟨hgr, v, i, E⟩ hG1 hx
      rw [bodS_id S1 hx]
      have hb := hbd S1 g x hG1 hx
      refine YieldAt.mono (hround #[.pointer (some ⟨qb g, 0, none⟩), .int .i64 x.q.cur] W (fun W' => EJ w h O b qb (.func (.func 58) #[] #[]) ro S1 (.pointer (some ⟨qb g, 0, none⟩)) (.int .i64 x.q.cur) W')
        ({ tmps := #[.pointer (some ⟨h, 0, none⟩), .func (.func 58) #[] #[], undef, undef, .pointer none, .int .i64 0, .pointer (some ⟨w.heap.size, 0, none⟩), .pointer (some ⟨w.heap.size + 1, 0, none⟩), .pointer (some ⟨qb g, 0, none⟩), .int .i64 x.q.cur, .pointer (some ⟨h, 0, none⟩), .func (.func 58) #[] #[], .func (.func 107) #[] #[.pointer (some ⟨w.heap.size + 2, 0, none⟩), .pointer (some ⟨w.heap.size + 3, 0, none⟩)], .pointer (some ⟨qb g, 0, none⟩), .int .i64 x.q.cur, undef, undef, undef, undef, undef], defers := [] }) rfl E.lL E.dD ?_ ?_) ?_
      · intro K hK
        gi_wp2
        exact hK
      · have E1 := E.putL bo
        have f1 := E1.b1.frozen
        have c1 := E1.b1.cell
        have f2 := E1.b2.frozen
        have c2 := E1.b2.cell
        have hne : ¬ w.heap.size = w.heap.size + 1 := by omega
        have hne' : ¬ w.heap.size + 1 = w.heap.size := by omega
        have E2 := Lib.hid ((E1.store1 (.pointer (some ⟨qb g, 0, none⟩))).store2 (.int .i64 x.q.cur))
        clear E E1
        generalize x.q.cur = id0 at *
        generalize W.putObj (w.heap.size + 4 + 1) bo = V at *
        gi_wp2
        exact ⟨E2.out.lL, E2.out.dD, E2.out.putL ro⟩
      · rintro e W' ⟨rfl, _, _, E'⟩
        exact ⟨rfl, hgr, E', hb⟩
    · rintro S1 g i W ⟨hgr, E, _⟩
      exact ⟨hgr, _, _, E⟩
    · rintro e W' ⟨⟨v, rfl⟩, _, E, hb⟩
      exact ⟨⟨_, rfl⟩, E.lL, E.dD, ro, E, hb⟩
  case hdone =>
    rintro W o ⟨ro, E, hb⟩ hK _
    rw [hs0] at *
    have E1 := Lib.hid (E.putL o)
    have TO1 := Lib.hid (fun w => TO.out F.2.2 w hb.1 hb.2)
    clear E hb TO hK E0 hbd hF
    generalize W.putObj (w.heap.size + 4 + 1) o = V at *
    have c1 := E1.out.b1.cell
    have c2 := E1.out.b2.cell
    gi_wp2
    refine (wpIn_wide (n := 3)).2 ?_
    go_region_held3 (fun w' => w'.cell? ⟨w.heap.size, 0, none⟩ = some (.pointer (some ⟨qb F.2.1, 0, none⟩)) ∧ w'.cell? ⟨w.heap.size + 1, 0, none⟩ = some (.int .i64 F.2.2)) (first | exact ⟨c1, c2⟩ | exact ⟨l1, l2⟩)
      (first
        | (go_at_call 104; refine (TO1.out _).mono ?_; rintro e w1 ⟨rfl, hg1⟩; have E2 := Lib.hid ((E1.out.fresh (drew_below _)).fresh hg1); have l1 := E2.out.b1.cell; have l2 := E2.out.b2.cell))
    gi_wp2
    refine ⟨by simp, .inl ⟨_, _, rfl, run_takeDeferred E2.out.dD, ?_⟩⟩
    refine ⟨.tuple #[.pointer (some ⟨qb F.2.1, 0, none⟩), .int .i64 (taskS F.2.2)], by simp [results, Tryz.results57, go_sem], rfl, ?_⟩
    have sz : (w1.putObj (w.heap.size + 4) (.deferred none)).heap.size = w1.heap.size := by simp [World.putObj]
    have ne : ∀ k, k ≠ w.heap.size + 4 → (w1.putObj (w.heap.size + 4) (.deferred none)).heap[k]? = w1.heap[k]? := fun k hk => World.putObj_heap_other hk
    exact ⟨(E2.out.k.keep fun k _ hk => ne k (fun e => hk (.inr (by omega)))).other fun k hk => .inl (.inl hk), E2.out.same.trans ⟨rfl, rfl, rfl, by rw [sz]; exact Nat.le_refl _, fun k hk => ne k (fun e => by have := HO.out k hk; omega)⟩⟩

set_option maxHeartbeats 8000000 in
theorem endP_ (w : World) (h : Nat) (O : Nat → Prop) (b qb : Nat → Nat) (S : Hs) (H : Hb w h O b qb S) (hO : ∀ k, O k → k < w.heap.size) {dep : Nat → Nat} (hG : GoodD dep S) (Bp : Nat) (hBO : O Bp) (hBp : w.cell? ⟨Bp, 0, none⟩ = some (.pointer (some ⟨h, 0, none⟩))) :
    Calls Tryz.prog 57 #[.pointer (some ⟨h, 0, none⟩), .func (.func 85) #[] #[.pointer (some ⟨Bp, 0, none⟩)]] w (EndP (walkS (fun st => chosen st S.gr) id 9 S 0) h O b qb w) := by
  have TO := Lib.hid (fun n w h0 h1 => taskOf_ n w h0 h1)
  obtain ⟨F, hF⟩ : ∃ F, F = walkS (fun st => chosen st S.gr) id 9 S 0 := ⟨_, rfl⟩
  rw [← hF]
  refine (callsIn_wide (n := 3)).1 ?_
  refine callsIn_of_wp_marks Tryz.func57 rfl trivial ?_ rfl
  simp only [Tryz.ntmps57, List.size_toArray, List.length_cons, List.length_nil, Nat.reduceAdd, Nat.reduceSub, Array.replicate_succ, Array.replicate_zero, List.push_toArray, List.append_toArray, List.nil_append, List.cons_append]
  gi_wp2_with (refine ⟨trivial, ?_⟩; gi_at_call 63; refine (callsIn_wide.2 (way_ _ h _ _)).mono ?_; rintro e w' ⟨rfl, rfl⟩)
  have a1 := alloc1 w (.cells #[.pointer none] 85)
  have E0 : ∀ ro : Obj, EJ w h O b qb (.func (.func 85) #[] #[.pointer (some ⟨Bp, 0, none⟩)]) ro S (.pointer none) (.int .i64 (-1)) ((((((w.alloc (.cells #[.pointer none] 85)).alloc (.cells #[.int .i64 (-1)] 3)).alloc (.cells #[.pointer (some ⟨h, 0, none⟩)] 25)).alloc (.cells #[.func (.func 85) #[] #[.pointer (some ⟨Bp, 0, none⟩)]] 110)).alloc (.deferred (some []))).alloc ro) := by
    intro ro
    obtain ⟨W1, h1⟩ : ∃ W1, w.alloc (.cells #[.pointer none] 85) = W1 := ⟨_, rfl⟩
    obtain ⟨W2, h2⟩ : ∃ W2, W1.alloc (.cells #[.int .i64 (-1)] 3) = W2 := ⟨_, rfl⟩
    obtain ⟨W3, h3⟩ : ∃ W3, W2.alloc (.cells #[.pointer (some ⟨h, 0, none⟩)] 25) = W3 := ⟨_, rfl⟩
    obtain ⟨W4, h4⟩ : ∃ W4, W3.alloc (.cells #[.func (.func 85) #[] #[.pointer (some ⟨Bp, 0, none⟩)]] 110) = W4 := ⟨_, rfl⟩
    obtain ⟨W5, h5⟩ : ∃ W5, W4.alloc (.deferred (some [])) = W5 := ⟨_, rfl⟩
    obtain ⟨W6, h6⟩ : ∃ W6, W5.alloc ro = W6 := ⟨_, rfl⟩
    have s1 : W1.heap.size = w.heap.size + 1 := by rw [← h1]; simp
    have s2 : W2.heap.size = w.heap.size + 2 := by rw [← h2]; simp; omega
    have s3 : W3.heap.size = w.heap.size + 3 := by rw [← h3]; simp; omega
    have s4 : W4.heap.size = w.heap.size + 4 := by rw [← h4]; simp; omega
    have s5 : W5.heap.size = w.heap.size + 5 := by rw [← h5]; simp; omega
    have s6 : W6.heap.size = w.heap.size + 6 := by rw [← h6]; simp; omega
    have n1 : W1.heap[w.heap.size]? = some (.cells #[.pointer none] 85 (0, 0)) := by rw [← h1]; exact heap_alloc_new w _
    have n2 : W2.heap[w.heap.size + 1]? = some (.cells #[.int .i64 (-1)] 3 (0, 0)) := by rw [← h2, ← s1]; exact heap_alloc_new W1 _
    have n3 : W3.heap[w.heap.size + 2]? = some (.cells #[.pointer (some ⟨h, 0, none⟩)] 25 (0, 0)) := by rw [← h3, ← s2]; exact heap_alloc_new W2 _
    have n4 : W4.heap[w.heap.size + 3]? = some (.cells #[.func (.func 85) #[] #[.pointer (some ⟨Bp, 0, none⟩)]] 110 (0, 0)) := by rw [← h4, ← s3]; exact heap_alloc_new W3 _
    have n5 : W5.heap[w.heap.size + 4]? = some (.deferred (some [])) := by rw [← h5, ← s4]; exact heap_alloc_new W4 _
    have n6 : W6.heap[w.heap.size + 5]? = some ro := by rw [← h6, ← s5]; exact heap_alloc_new W5 _
    have g1 : Below w.heap.size w W1 := by rw [← h1]; exact alloc1 w _
    have g2 : Below W1.heap.size W1 W2 := by rw [← h2]; exact alloc1 W1 _
    have g3 : Below W2.heap.size W2 W3 := by rw [← h3]; exact alloc1 W2 _
    have g4 : Below W3.heap.size W3 W4 := by rw [← h4]; exact alloc1 W3 _
    have g5 : Below W4.heap.size W4 W5 := by rw [← h5]; exact alloc1 W4 _
    have g6 : Below W5.heap.size W5 W6 := by rw [← h6]; exact alloc1 W5 _
    have g56 := ft g5 g6
    have g46 := ft g4 g56
    have g36 := ft g3 g46
    have g26 := ft g2 g36
    have g16 := ft g1 g26
    rw [h1, h2, h3, h4, h5, h6]
    refine ⟨(H.other (O' := Oo O w.heap.size) fun k hk => hk.imp id (fun e => e.1)).fresh g16, ?_, hO, Same.of g16 hO, ⟨_, (g26.block _ (by omega)).trans n1⟩, ⟨_, (g36.block _ (by omega)).trans n2⟩, ⟨_, (g46.block _ (by omega)).trans n3⟩, ⟨_, (g56.block _ (by omega)).trans n4⟩, (g6.block _ (by omega)).trans n5, n6⟩
    rintro k (hk | hk)
    · have := hO k hk; omega
    · omega
  obtain ⟨W0, hW0⟩ : ∃ W0, (((w.alloc (.cells #[.pointer none] 85)).alloc (.cells #[.int .i64 (-1)] 3)).alloc (.cells #[.pointer (some ⟨h, 0, none⟩)] 25)).alloc (.cells #[.func (.func 85) #[] #[.pointer (some ⟨Bp, 0, none⟩)]] 110) = W0 := ⟨_, rfl⟩
  have hs0 : W0.heap.size = w.heap.size + 4 := by rw [← hW0]; simp
  rw [hW0] at E0 ⊢
  have hsz2 : ((w.alloc (.cells #[.pointer none] 85)).alloc (.cells #[.int .i64 (-1)] 3)).heap.size = w.heap.size + 2 := by simp
  simp only [World.size_alloc, Nat.add_assoc, Nat.reduceAdd]
  clear a1 hW0 hsz2
  have hbd : ∀ S1 g x, GoodD dep S1 → S1.g g = some x → -1 ≤ x.q.cur ∧ x.q.cur < 128 := fun S1 g x hG1 hx => by
    rcases hG1.cur g x hx with e | e
    · omega
    · obtain ⟨y, hy, hid⟩ := named_of e
      have := (hG1.q g x hx).each y hy
      have := hG1.ids g x hx y hy
      omega
  have HO := Lib.hid hO
  refine range_on (n := 3) (w := W0) (by omega) (gf := 107) (lb := #[.pointer (some ⟨w.heap.size + 2, 0, none⟩), .pointer (some ⟨w.heap.size + 3, 0, none⟩)]) rfl (enters_of Tryz.func107 (by kernel_rfl) rfl)
    (fun W => ∃ ro, EJ w h O b qb (.func (.func 85) #[] #[.pointer (some ⟨Bp, 0, none⟩)]) ro F.1 (.pointer (some ⟨qb F.2.1, 0, none⟩)) (.int .i64 F.2.2) W ∧ -1 ≤ F.2.2 ∧ F.2.2 < 128) ?hit ?hdone
  case hit =>
    intro ro bo _ _ hround
    rw [hs0] at hround ⊢
    rw [hF]
    refine (wayP_ (3 - 1) (by omega) _ h (w.heap.size + 2) (w.heap.size + 3) (w.heap.size + 4 + 1) b qb (fun st => chosen st S.gr) id (asks_pick S.gr) dep
      (fun S1 W => S1.gr = S.gr ∧ ∃ v i, EJ w h O b qb (.func (.func 85) #[] #[.pointer (some ⟨Bp, 0, none⟩)]) ro S1 (.pointer v) (.int .i64 i) W)
      (fun S1 g i W => S1.gr = S.gr ∧ EJ w h O b qb (.func (.func 85) #[] #[.pointer (some ⟨Bp, 0, none⟩)]) ro S1 (.pointer (some ⟨qb g, 0, none⟩)) (.int .i64 i) W ∧ -1 ≤ i ∧ i < 128)
      Bp ?_ ?_ ?_ ?_ ?_ ?_ S hG ⟨rfl, _, _, E0 ro⟩).mono ?_
    · rintro S1 W ⟨_, v, i, E⟩
      exact ⟨_, E.k, E.b3.cell, E.b4.cell⟩
    · rintro S1 W W' ⟨hgr, v, i, E⟩ hg
      exact ⟨hgr, v, i, E.fresh hg⟩
    · rintro S1 g i W W' ⟨hgr, E, hb⟩ hg
      exact ⟨hgr, E.fresh hg, hb⟩
    · rintro S1 W g x ⟨hgr, v, i, E⟩ hG1 hx
      have hc : W.cell? ⟨Bp, 0, none⟩ = some (.pointer (some ⟨h, 0, none⟩)) := (World.cell?_of_block (a := ⟨Bp, 0, none⟩) (E.same.block Bp hBO)).trans hBp
      refine (pick1_ W h Bp _ b qb S1 E.k E.old hG1 hc hx).mono ?_
      rintro e W' ⟨rfl, K, s⟩
      refine ⟨by rw [hgr], hgr, v, i, ?_⟩
      rw [hgr] at K
      exact E.did K s
    · rintro S1 W g x ⟨hgr, v, i, E⟩ hG1 hx
      rw [bodS_id S1 hx]
      have hb := hbd S1 g x hG1 hx
      refine YieldAt.mono (hround #[.pointer (some ⟨qb g, 0, none⟩), .int .i64 x.q.cur] W (fun W' => EJ w h O b qb (.func (.func 85) #[] #[.pointer (some ⟨Bp, 0, none⟩)]) ro S1 (.pointer (some ⟨qb g, 0, none⟩)) (.int .i64 x.q.cur) W')
        ({ tmps := #[.pointer (some ⟨h, 0, none⟩), .func (.func 85) #[] #[.pointer (some ⟨Bp, 0, none⟩)], undef, undef, .pointer none, .int .i64 0, .pointer (some ⟨w.heap.size, 0, none⟩), .pointer (some ⟨w.heap.size + 1, 0, none⟩), .pointer (some ⟨qb g, 0, none⟩), .int .i64 x.q.cur, .pointer (some ⟨h, 0, none⟩), .func (.func 85) #[] #[.pointer (some ⟨Bp, 0, none⟩)], .func (.func 107) #[] #[.pointer (some ⟨w.heap.size + 2, 0, none⟩), .pointer (some ⟨w.heap.size + 3, 0, none⟩)], .pointer (some ⟨qb g, 0, none⟩), .int .i64 x.q.cur, undef, undef, undef, undef, undef], defers := [] }) rfl E.lL E.dD ?_ ?_) ?_
      · intro K hK
        gi_wp2
        exact hK
      · have E1 := E.putL bo
        have f1 := E1.b1.frozen
        have c1 := E1.b1.cell
        have f2 := E1.b2.frozen
        have c2 := E1.b2.cell
        have hne : ¬ w.heap.size = w.heap.size + 1 := by omega
        have hne' : ¬ w.heap.size + 1 = w.heap.size := by omega
        have E2 := Lib.hid ((E1.store1 (.pointer (some ⟨qb g, 0, none⟩))).store2 (.int .i64 x.q.cur))
        clear E E1
        generalize x.q.cur = id0 at *
        generalize W.putObj (w.heap.size + 4 + 1) bo = V at *
        gi_wp2
        exact ⟨E2.out.lL, E2.out.dD, E2.out.putL ro⟩
      · rintro e W' ⟨rfl, _, _, E'⟩
        exact ⟨rfl, hgr, E', hb⟩
    · rintro S1 g i W ⟨hgr, E, _⟩
      exact ⟨hgr, _, _, E⟩
    · rintro e W' ⟨⟨v, rfl⟩, _, E, hb⟩
      exact ⟨⟨_, rfl⟩, E.lL, E.dD, ro, E, hb⟩
  case hdone =>
    rintro W o ⟨ro, E, hb⟩ hK _
    rw [hs0] at *
    have E1 := Lib.hid (E.putL o)
    have TO1 := Lib.hid (fun w => TO.out F.2.2 w hb.1 hb.2)
    clear E hb TO hK E0 hbd hF
    generalize W.putObj (w.heap.size + 4 + 1) o = V at *
    have c1 := E1.out.b1.cell
    have c2 := E1.out.b2.cell
    gi_wp2
    refine (wpIn_wide (n := 3)).2 ?_
    go_region_held3 (fun w' => w'.cell? ⟨w.heap.size, 0, none⟩ = some (.pointer (some ⟨qb F.2.1, 0, none⟩)) ∧ w'.cell? ⟨w.heap.size + 1, 0, none⟩ = some (.int .i64 F.2.2)) (first | exact ⟨c1, c2⟩ | exact ⟨l1, l2⟩)
      (first
        | (go_at_call 104; refine (TO1.out _).mono ?_; rintro e w1 ⟨rfl, hg1⟩; have E2 := Lib.hid ((E1.out.fresh (drew_below _)).fresh hg1); have l1 := E2.out.b1.cell; have l2 := E2.out.b2.cell))
    gi_wp2
    refine ⟨by simp, .inl ⟨_, _, rfl, run_takeDeferred E2.out.dD, ?_⟩⟩
    refine ⟨.tuple #[.pointer (some ⟨qb F.2.1, 0, none⟩), .int .i64 (taskS F.2.2)], by simp [results, Tryz.results57, go_sem], rfl, ?_⟩
    have sz : (w1.putObj (w.heap.size + 4) (.deferred none)).heap.size = w1.heap.size := by simp [World.putObj]
    have ne : ∀ k, k ≠ w.heap.size + 4 → (w1.putObj (w.heap.size + 4) (.deferred none)).heap[k]? = w1.heap[k]? := fun k hk => World.putObj_heap_other hk
    exact ⟨(E2.out.k.keep fun k _ hk => ne k (fun e => hk (.inr (by omega)))).other fun k hk => .inl (.inl hk), E2.out.same.trans ⟨rfl, rfl, rfl, by rw [sz]; exact Nat.le_refl _, fun k hk => ne k (fun e => by have := HO.out k hk; omega)⟩⟩
end Go.Proofs.YtnnjbonejbmgdaaGreat.Hr

/- What Running, Pick and Yield of package hier do. Conditions: the queues are sound. -/
namespace Go.Proofs.YtnnjbonejbmgdaaGreat.Hr
open Go.ChangeShapes Go.WideShapes Go.ChangeAt Go.RowKit Tree Queue
set_option linter.unusedVariables false
set_option linter.unusedSimpArgs false
set_option maxRecDepth 100000

theorem GoodD.walk {c : St → Int} {f : St → St} (A : Asks c f) {dep : Nat → Nat} : ∀ (n : Nat) {S : Hs} (g : Nat), GoodD dep S → GoodD dep (walkS c f n S g).1
  | 0, _, _, h => h
  | n + 1, S, g, h => by
    cases hx : S.g g with
    | none => rw [walkS, hx]; exact h
    | some x =>
      have hb := A.good (A.curG h hx) (cur_get c S g x)
      rw [bod_cur] at hb
      cases hn : nxt (c x.q) with
      | none => rw [walk_none hx hn]; exact hb
      | some j => rw [walk_some hx hn]; exact GoodD.walk A n j hb
theorem walk_cur : ∀ (n : Nat) (S : Hs) (g : Nat), (walkS (fun st => st.cur) id n S g).1 = S
  | 0, _, _ => rfl
  | n + 1, S, g => by
    cases hx : S.g g with
    | none => rw [walkS, hx]
    | some x =>
      have hs : S.set g (some { x with q := id { x.q with cur := (fun st => st.cur) x.q } }) = S := set_self hx
      cases hn : nxt ((fun st => st.cur) x.q) with
      | none => rw [walk_none hx hn, hs]
      | some j => rw [walk_some hx hn, hs]; exact walk_cur n S j
/-- The last group that is asked is there. -/
theorem walk_there {c : St → Int} {f : St → St} (A : Asks c f) {dep : Nat → Nat} : ∀ (n : Nat) {S : Hs} {g : Nat} {x : Gp}, GoodD dep S → S.g g = some x → ∃ y, (walkS c f n S g).1.g (walkS c f n S g).2.1 = some y
  | 0, _, _, _, _, hx => ⟨_, hx⟩
  | n + 1, S, g, x, h, hx => by
    have hb := A.good (A.curG h hx) (cur_get c S g x)
    rw [bod_cur] at hb
    cases hn : nxt (c x.q) with
    | none => rw [walk_none hx hn]; exact ⟨_, Hs.set_same _ _ _⟩
    | some j =>
      rw [walk_some hx hn]
      obtain ⟨y, e1, _, _, _, e5, _⟩ := h.next hx (A.ask x.q (h.q g x hx) (h.cur g x hx)).2 hn
      exact walk_there A n hb (by rw [Hs.set_other _ _ e5]; exact e1)
/-- Where the way ends, and who runs. -/
def endG (S : Hs) : Nat := (walkS (fun st => st.cur) id 9 S 0).2.1
def runS (S : Hs) : Int := taskS (walkS (fun st => st.cur) id 9 S 0).2.2
def pickF (S : Hs) : Hs × Nat × Int := walkS (fun st => chosen st S.gr) id 9 S 0
def pickS (S : Hs) : Hs := (pickF S).1
def pickN (S : Hs) : Int := taskS (pickF S).2.2
def yieldS (S : Hs) : Hs := if runS S = -1 then S else match S.g (endG S) with
  | none => S
  | some x => S.set (endG S) (some { x with q := { x.q with cur := Queue.yielded x.q S.gr } })
theorem endC' (w : World) (h : Nat) (O : Nat → Prop) (b qb : Nat → Nat) (S : Hs) (H : Hb w h O b qb S) (hO : ∀ k, O k → k < w.heap.size) {dep : Nat → Nat} (hG : GoodD dep S) :
    Calls Tryz.prog 57 #[.pointer (some ⟨h, 0, none⟩), .func (.func 58) #[] #[]] w (DidH (.tuple #[.pointer (some ⟨qb (endG S), 0, none⟩), .int .i64 (runS S)]) S h O b qb w) := by
  refine (endC_ w h O b qb S H hO hG).mono ?_
  rintro e w' ⟨rfl, K, s⟩
  rw [walk_cur] at K
  exact ⟨rfl, K, s⟩
theorem running_ (w : World) (h : Nat) (O : Nat → Prop) (b qb : Nat → Nat) (S : Hs) (H : Hb w h O b qb S) (hO : ∀ k, O k → k < w.heap.size) {dep : Nat → Nat} (hG : GoodD dep S) :
    Calls Tryz.prog 17 #[.pointer (some ⟨h, 0, none⟩)] w (DidH (.int .i64 (runS S)) S h O b qb w) := by
  have E := Lib.hid (endC' w h O b qb S H hO hG)
  clear H hO hG
  go_enter Tryz.func17, Tryz.ntmps17
  go_wp2_with (go_at_call 57; refine E.out.mono ?_; rintro e w1 ⟨rfl, K1, s1⟩)
  go_ret; exact ⟨rfl, K1, s1⟩
set_option maxHeartbeats 4000000 in
theorem pick_ (w : World) (h : Nat) (O : Nat → Prop) (b qb : Nat → Nat) (S : Hs) (H : Hb w h O b qb S) (hO : ∀ k, O k → k < w.heap.size) {dep : Nat → Nat} (hG : GoodD dep S) :
    Calls Tryz.prog 36 #[.pointer (some ⟨h, 0, none⟩)] w (DidH (.int .i64 (pickN S)) (pickS S) h O b qb w) := by
  have hmf : ∀ (fn : Fn) (first cap : Array Value) (w : World), (Instr.makeFunc fn first cap).run Tryz.prog w = .ok (.func fn first cap) w := fun _ _ _ _ => rfl
  have hB : (w.alloc (.cells #[.pointer (some ⟨h, 0, none⟩)] 25)).heap[w.heap.size]? = some (.cells #[.pointer (some ⟨h, 0, none⟩)] 25 (0, 0)) := heap_alloc_new w _
  have hc : (w.alloc (.cells #[.pointer (some ⟨h, 0, none⟩)] 25)).cell? ⟨w.heap.size, 0, none⟩ = some (.pointer (some ⟨h, 0, none⟩)) := by rw [cell_of_row _ _ _ _ _ _ hB]; rfl
  have K0 := (H.other (O' := With O w.heap.size) fun k hk => hk.imp id (fun e => by omega)).fresh (alloc1 w (.cells #[.pointer (some ⟨h, 0, none⟩)] 25))
  have hO1 : ∀ k, With O w.heap.size k → k < (w.alloc (.cells #[.pointer (some ⟨h, 0, none⟩)] 25)).heap.size := by
    rintro k (hk | rfl)
    · have := hO k hk; simp; omega
    · simp
  have E := Lib.hid (endP_ _ h (With O w.heap.size) b qb S K0 hO1 hG w.heap.size (.inr rfl) hc)
  have S0 := Lib.hid (same_of hO (alloc1 w (.cells #[.pointer (some ⟨h, 0, none⟩)] 25)))
  unfold pickN pickS pickF
  clear H hO hG K0 hO1 hB
  generalize walkS (fun st => chosen st S.gr) id 9 S 0 = F at *
  go_enter Tryz.func36, Tryz.ntmps36
  go_wp2_with (go_at_call 57; refine E.out.mono ?_; rintro e w1 ⟨rfl, K1, s1⟩)
  go_ret; exact ⟨rfl, K1.other (fun k hk => .inl (.inl hk)), S0.out.trans (s1.mono fun k hk => .inl hk)⟩
theorem yieldS_good {dep : Nat → Nat} {S : Hs} (hG : GoodD dep S) : GoodD dep (yieldS S) := by
  unfold yieldS
  split
  · exact hG
  · split
    · exact hG
    · rename_i x hx
      exact hG.cur_ hx (sound_yield (hG.q _ x hx) S.gr) (yielded_is x.q S.gr)
set_option maxHeartbeats 4000000 in
theorem yield_ (w : World) (h : Nat) (O : Nat → Prop) (b qb : Nat → Nat) (S : Hs) (H : Hb w h O b qb S) (hO : ∀ k, O k → k < w.heap.size) {dep : Nat → Nat} (hG : GoodD dep S) :
    Calls Tryz.prog 37 #[.pointer (some ⟨h, 0, none⟩)] w (DidH (.int .i64 (pickN (yieldS S))) (pickS (yieldS S)) h O b qb w) := by
  have E := Lib.hid (endC' w h O b qb S H hO hG)
  have HO := Lib.hid hO
  have PK := Lib.hid (fun w1 S' (K : Hb w1 h O b qb S') (hk : ∀ k, O k → k < w1.heap.size) (hG' : GoodD dep S') => pick_ w1 h O b qb S' K hk hG')
  have hgy := yieldS_good hG
  by_cases hr : runS S = -1
  · have hy : yieldS S = S := by unfold yieldS; rw [if_pos hr]
    rw [hy] at hgy ⊢
    have PK1 := Lib.hid (fun w1 (K : Hb w1 h O b qb S) (hk : ∀ k, O k → k < w1.heap.size) => PK.out w1 S K hk hgy)
    rw [hr] at E
    clear H hO hG PK hgy hy hr
    generalize pickN S = n at *
    generalize pickS S = S1 at *
    go_enter Tryz.func37, Tryz.ntmps37
    go_wp2_with (first
      | (go_at_call 57; refine E.out.mono ?_; rintro e w1 ⟨rfl, K1, s1⟩; have K1 := Lib.hid K1)
      | (go_at_call 36; refine (PK1.out _ K1.out (fun k hk => Nat.lt_of_lt_of_le (HO.out k hk) s1.size)).mono ?_; rintro e w2 ⟨rfl, K2, s2⟩))
    go_ret; exact ⟨rfl, K2, s1.trans s2⟩
  · obtain ⟨r, hr0, _⟩ := hG.root
    obtain ⟨x, hx⟩ := walk_there asks_cur 9 hG hr0
    rw [walk_cur] at hx
    have hx' : S.g (endG S) = some x := hx
    have hy : yieldS S = S.set (endG S) (some { x with q := { x.q with cur := Queue.yielded x.q S.gr } }) := by unfold yieldS; rw [if_neg hr, hx']
    have hs := hG.q _ x hx'
    have YD : Hid (∀ w1, Hb w1 h O b qb S → (∀ k, O k → k < w1.heap.size) → Calls Tryz.prog 87 #[.pointer (some ⟨qb (endG S), 0, none⟩), .int .i64 S.gr] w1 (DidH (.int .i64 (Queue.yielded x.q S.gr)) (yieldS S) h O b qb w1)) := by
      refine Lib.hid fun w1 K hk => ?_
      obtain ⟨Oq, q1, q2, q3, q4⟩ := K.que hk hx'
      refine (yields w1 (qb (endG S)) Oq x.q S.gr q1 q2 hs.once hs.cur hG.gr (sound_few hs).2.2.2).mono ?_
      rintro e w2 ⟨rfl, g1, g2⟩
      rw [hy]
      exact ⟨rfl, q4 _ _ g1 g2, g2.mono q3⟩
    have PK1 := Lib.hid (fun w1 (K : Hb w1 h O b qb (yieldS S)) (hk : ∀ k, O k → k < w1.heap.size) => PK.out w1 _ K hk hgy)
    have TP : Hid (∀ w1, Hb w1 h O b qb S → w1.cell? ⟨h, 1, none⟩ = some (.int .i64 S.gr)) := Lib.hid fun w1 K => K.top.2.1
    have hr2 : (runS S == -1) = false := by simpa using hr
    clear H hO hG PK hgy hy hr0 hx hx' hs
    generalize Queue.yielded x.q S.gr = yd at *
    generalize yieldS S = S2 at *
    generalize pickN S2 = n at *
    generalize pickS S2 = S1 at *
    generalize runS S = rn at *
    generalize endG S = eg at *
    generalize S.gr = gr at *
    go_enter Tryz.func37, Tryz.ntmps37
    go_wp2_with (first
      | (go_at_call 57; refine E.out.mono ?_; rintro e w1 ⟨rfl, K1, s1⟩; have t1 := TP.out _ K1; have K1 := Lib.hid K1)
      | (go_at_call 87; refine (YD.out _ K1.out (fun k hk => Nat.lt_of_lt_of_le (HO.out k hk) s1.size)).mono ?_; rintro e w2 ⟨rfl, K2, s2⟩; have K2 := Lib.hid K2)
      | (go_at_call 36; refine (PK1.out _ K2.out (fun k hk => Nat.lt_of_lt_of_le (HO.out k hk) (Nat.le_trans s1.size s2.size))).mono ?_; rintro e w3 ⟨rfl, K3, s3⟩))
    go_ret; exact ⟨rfl, K3, (s1.trans s2).trans s3⟩
end Go.Proofs.YtnnjbonejbmgdaaGreat.Hr

/- What Charge of package hier does. Conditions: the queues are sound. -/
namespace Go.Proofs.YtnnjbonejbmgdaaGreat.Hr
open Go.ChangeShapes Go.WideShapes Go.ChangeAt Go.RowKit Tree Queue
open Go.Shelf
attribute [local go_sem] Oper.semAt_some
set_option linter.unusedVariables false
set_option linter.unusedSimpArgs false
set_option maxRecDepth 100000

def errChargeH (S : Hs) (ns : Int) : Int := if runS S = -1 then 7 else if 1000000000 < ns then 8 else 0
def chargeH (S : Hs) (ns : Int) : Hs := if runS S = -1 then S else if 1000000000 < ns then S else (walkS (fun st => st.cur) (fun st => chargeS st ns) 9 S 0).1
theorem chargeH_good {dep : Nat → Nat} {S : Hs} (hG : GoodD dep S) {ns : Int} (hn : 0 ≤ ns) : GoodD dep (chargeH S ns) := by
  unfold chargeH
  split
  · exact hG
  · split
    · exact hG
    · exact GoodD.walk (asks_charge hn) 9 0 hG
theorem charge_nil_ (w : World) (ns : Int) : Calls Tryz.prog 22 #[.pointer none, .int .u64 ns] w (Is (.int .i64 1) w) := by
  have hg := alloc1 w (.cells #[.int .u64 ns] 32)
  go_enter Tryz.func22, Tryz.ntmps22
  go_wp2
  go_ret; exact ⟨rfl, hg⟩
def Oc (O : Nat → Prop) (y z : Nat) : Nat → Prop := fun k => O k ∨ k = y ∨ (z ≤ k ∧ k < z + 4)
/-- On the way through Charge's loop. -/
structure CJ (w : World) (h : Nat) (O : Nat → Prop) (b qb : Nat → Nat) (y : Nat) (ns : Int) (z : Nat) (ro : Obj) (S : Hs) (W : World) : Prop where
  k : Hb W h (Oc O y z) b qb S
  old : ∀ k, Oc O y z k → k < W.heap.size
  hO : ∀ k, O k → k < y
  yz : y < z
  same : Same O w W
  bn : Holds W y (.int .u64 ns)
  b3 : Holds W z (.pointer (some ⟨h, 0, none⟩))
  b4 : Holds W (z + 1) (.func (.func 58) #[] #[])
  dD : W.heap[z + 2]? = some (.deferred (some []))
  lL : W.heap[z + 3]? = some ro
section
variable {w W W' : World} {h : Nat} {O : Nat → Prop} {b qb : Nat → Nat} {y : Nat} {ns : Int} {z : Nat} {ro : Obj} {S S' : Hs}
theorem CJ.did (E : CJ w h O b qb y ns z ro S W) (K : Hb W' h (Oc O y z) b qb S') (s : Same (Oc O y z) W W') : CJ w h O b qb y ns z ro S' W' :=
  ⟨K, fun k hk => Nat.lt_of_lt_of_le (E.old k hk) s.size, E.hO, E.yz, E.same.trans (s.mono fun k hk => .inl hk), E.bn.on (s.block _ (.inr (.inl rfl))), E.b3.on (s.block _ (.inr (.inr (by omega)))), E.b4.on (s.block _ (.inr (.inr (by omega)))), (s.block _ (.inr (.inr (by omega)))).trans E.dD, (s.block _ (.inr (.inr (by omega)))).trans E.lL⟩
theorem CJ.fresh (E : CJ w h O b qb y ns z ro S W) (hg : Below W.heap.size W W') : CJ w h O b qb y ns z ro S W' := E.did (E.k.fresh hg) (Same.of hg E.old)
theorem CJ.putL (E : CJ w h O b qb y ns z ro S W) (bo : Obj) : CJ w h O b qb y ns z bo S (W.putObj (z + 3) bo) := by
  have hy := E.yz
  have ne : ∀ k, k ≠ z + 3 → (W.putObj (z + 3) bo).heap[k]? = W.heap[k]? := fun k hk => World.putObj_heap_other hk
  have sz : (W.putObj (z + 3) bo).heap.size = W.heap.size := by simp [World.putObj]
  refine ⟨E.k.keep fun k _ hk => ne k (fun e => hk (.inr (.inr (by omega)))), fun k hk => by rw [sz]; exact E.old k hk, E.hO, E.yz, E.same.trans ⟨rfl, rfl, rfl, by rw [sz]; exact Nat.le_refl _, fun k hk => ne k (fun e => by have := E.hO k hk; omega)⟩, E.bn.on (ne _ (by omega)), E.b3.on (ne _ (by omega)), E.b4.on (ne _ (by omega)), (ne _ (by omega)).trans E.dD, World.putObj_heap_same (lt_of E.lL)⟩
end
set_option maxHeartbeats 8000000 in
theorem charge_ (w : World) (h : Nat) (O : Nat → Prop) (b qb : Nat → Nat) (S : Hs) (H : Hb w h O b qb S) (hO : ∀ k, O k → k < w.heap.size) {dep : Nat → Nat} (hG : GoodD dep S) (ns : Int) (hn : 0 ≤ ns) :
    Calls Tryz.prog 22 #[.pointer (some ⟨h, 0, none⟩), .int .u64 ns] w (DidH (.int .i64 (errChargeH S ns)) (chargeH S ns) h O b qb w) := by
  have K0 : Hid (Hb (w.alloc (.cells #[.int .u64 ns] 32)) h (With O w.heap.size) b qb S) := Lib.hid ((H.other (O' := With O w.heap.size) fun k hk => hk.imp id (fun e => by omega)).fresh (alloc1 w _))
  have B0 : Hid (Holds (w.alloc (.cells #[.int .u64 ns] 32)) w.heap.size (.int .u64 ns)) := Lib.hid ⟨_, heap_alloc_new w _⟩
  have S0 : Hid (Same O w (w.alloc (.cells #[.int .u64 ns] 32))) := Lib.hid (same_of hO (alloc1 w _))
  have hO1 : ∀ k, With O w.heap.size k → k < (w.alloc (.cells #[.int .u64 ns] 32)).heap.size := by
    rintro k (hk | rfl)
    · have := hO k hk; simp; omega
    · simp
  have R := Lib.hid (running_ _ h (With O w.heap.size) b qb S K0.out hO1 hG)
  have HO1 := Lib.hid hO1
  have HO := Lib.hid hO
  unfold errChargeH chargeH
  by_cases hr : runS S = -1
  · rw [if_pos hr, if_pos hr]
    rw [hr] at R
    clear H hO hG hO1 hr
    go_enter Tryz.func22, Tryz.ntmps22
    go_wp2_with (go_at_call 17; refine R.out.mono ?_; rintro e w1 ⟨rfl, K1, s1⟩)
    go_ret; exact ⟨rfl, K1.other (fun k hk => .inl (.inl hk)), S0.out.trans (s1.mono fun k hk => .inl hk)⟩
  · rw [if_neg hr, if_neg hr]
    have hr2 : (runS S == -1) = false := by simpa using hr
    by_cases ht : 1000000000 < ns
    · rw [if_pos ht, if_pos ht]
      clear H hO hG hO1 hr
      generalize runS S = rn at *
      go_enter Tryz.func22, Tryz.ntmps22
      go_wp2_with (go_at_call 17; refine R.out.mono ?_; rintro e w1 ⟨rfl, K1, s1⟩; have c1 := (B0.out.on (s1.block _ (.inr rfl))).cell; have K1 := Lib.hid K1)
      go_ret; exact ⟨rfl, K1.out.other (fun k hk => .inl (.inl hk)), S0.out.trans (s1.mono fun k hk => .inl hk)⟩
    · rw [if_neg ht, if_neg ht]
      obtain ⟨F, hF⟩ : ∃ F, F = walkS (fun st => st.cur) (fun st => chargeS st ns) 9 S 0 := ⟨_, rfl⟩
      rw [← hF]
      have HG := Lib.hid hG
      have HF := Lib.hid hF
      clear H hG hO1 hr hF
      generalize runS S = rn at *
      refine (callsIn_wide (n := 3)).1 ?_
      refine callsIn_of_wp_marks Tryz.func22 rfl trivial ?_ rfl
      simp only [Tryz.ntmps22, List.size_toArray, List.length_cons, List.length_nil, Nat.reduceAdd, Nat.reduceSub, Array.replicate_succ, Array.replicate_zero, List.push_toArray, List.append_toArray, List.nil_append, List.cons_append]
      gi_wp2_with (first
        | (refine ⟨trivial, ?_⟩; gi_at_call 17; refine (callsIn_wide.2 R.out).mono ?_; rintro e w1 ⟨rfl, K1, s1⟩; have B1 := Lib.hid (B0.out.on (s1.block _ (.inr rfl))); have c1 := B1.out.cell; have K1 := Lib.hid K1)
        | (refine ⟨trivial, ?_⟩; gi_at_call 63; refine (callsIn_wide.2 (way_ _ h _ _)).mono ?_; rintro e w' ⟨rfl, rfl⟩))
      have hz : w.heap.size < w1.heap.size := B1.out.lt
      have E0 : ∀ ro : Obj, CJ w h O b qb w.heap.size ns w1.heap.size ro S ((((w1.alloc (.cells #[.pointer (some ⟨h, 0, none⟩)] 25)).alloc (.cells #[.func (.func 58) #[] #[]] 110)).alloc (.deferred (some []))).alloc ro) := by
        intro ro
        obtain ⟨W3, h3⟩ : ∃ W3, w1.alloc (.cells #[.pointer (some ⟨h, 0, none⟩)] 25) = W3 := ⟨_, rfl⟩
        obtain ⟨W4, h4⟩ : ∃ W4, W3.alloc (.cells #[.func (.func 58) #[] #[]] 110) = W4 := ⟨_, rfl⟩
        obtain ⟨W5, h5⟩ : ∃ W5, W4.alloc (.deferred (some [])) = W5 := ⟨_, rfl⟩
        obtain ⟨W6, h6⟩ : ∃ W6, W5.alloc ro = W6 := ⟨_, rfl⟩
        have s3 : W3.heap.size = w1.heap.size + 1 := by rw [← h3]; simp
        have s4 : W4.heap.size = w1.heap.size + 2 := by rw [← h4]; simp; omega
        have s5 : W5.heap.size = w1.heap.size + 3 := by rw [← h5]; simp; omega
        have s6 : W6.heap.size = w1.heap.size + 4 := by rw [← h6]; simp; omega
        have n3 : W3.heap[w1.heap.size]? = some (.cells #[.pointer (some ⟨h, 0, none⟩)] 25 (0, 0)) := by rw [← h3]; exact heap_alloc_new w1 _
        have n4 : W4.heap[w1.heap.size + 1]? = some (.cells #[.func (.func 58) #[] #[]] 110 (0, 0)) := by rw [← h4, ← s3]; exact heap_alloc_new W3 _
        have n5 : W5.heap[w1.heap.size + 2]? = some (.deferred (some [])) := by rw [← h5, ← s4]; exact heap_alloc_new W4 _
        have n6 : W6.heap[w1.heap.size + 3]? = some ro := by rw [← h6, ← s5]; exact heap_alloc_new W5 _
        have g3 : Below w1.heap.size w1 W3 := by rw [← h3]; exact alloc1 w1 _
        have g4 : Below W3.heap.size W3 W4 := by rw [← h4]; exact alloc1 W3 _
        have g5 : Below W4.heap.size W4 W5 := by rw [← h5]; exact alloc1 W4 _
        have g6 : Below W5.heap.size W5 W6 := by rw [← h6]; exact alloc1 W5 _
        have g56 := ft g5 g6
        have g46 := ft g4 g56
        have g36 := ft g3 g46
        rw [h3, h4, h5, h6]
        have hO2 : ∀ k, With O w.heap.size k → k < w1.heap.size := fun k hk => Nat.lt_of_lt_of_le (HO1.out k hk) s1.size
        refine ⟨(K1.out.other (O' := Oc O w.heap.size w1.heap.size) fun k hk => ?_).fresh g36, ?_, HO.out, hz, (S0.out.trans (s1.mono fun k hk => .inl hk)).trans (Same.of g36 fun k hk => hO2 k (.inl hk)), B1.out.on (g36.block _ hz), ⟨_, (g46.block _ (by omega)).trans n3⟩, ⟨_, (g56.block _ (by omega)).trans n4⟩, (g6.block _ (by omega)).trans n5, n6⟩
        · rcases hk with hk | hk | hk
          · exact .inl (.inl hk)
          · exact .inl (.inr hk)
          · exact .inr hk.1
        · rintro k (hk | rfl | hk)
          · have := hO2 k (.inl hk); omega
          · omega
          · omega
      obtain ⟨W0, hW0⟩ : ∃ W0, (w1.alloc (.cells #[.pointer (some ⟨h, 0, none⟩)] 25)).alloc (.cells #[.func (.func 58) #[] #[]] 110) = W0 := ⟨_, rfl⟩
      have hs0 : W0.heap.size = w1.heap.size + 2 := by rw [← hW0]; simp
      rw [hW0] at E0 ⊢
      clear hW0 c1 B1 K1 K0 B0 S0 R
      have hs1 := s1.size
      clear s1
      generalize w1.heap.size = z at *
      refine range_on (n := 3) (w := W0) (by omega) (gf := 107) (lb := #[.pointer (some ⟨z, 0, none⟩), .pointer (some ⟨z + 1, 0, none⟩)]) rfl (enters_of Tryz.func107 (by kernel_rfl) rfl)
        (fun W => ∃ ro, CJ w h O b qb w.heap.size ns z ro F.1 W) ?hit ?hdone
      case hit =>
        intro ro bo _ _ hround
        rw [hs0] at hround ⊢
        rw [HF.out]
        refine (wayC_ (3 - 1) (by omega) _ h z (z + 1) (z + 2 + 1) b qb (fun st => st.cur) (fun st => chargeS st ns) (asks_charge hn) dep
          (fun S1 W => CJ w h O b qb w.heap.size ns z ro S1 W)
          (fun S1 g i W => CJ w h O b qb w.heap.size ns z ro S1 W)
          ?_ ?_ ?_ ?_ ?_ ?_ S HG.out (E0 ro)).mono ?_
        · rintro S1 W E
          exact ⟨_, E.k, E.b3.cell, E.b4.cell⟩
        · rintro S1 W W' E hg
          exact E.fresh hg
        · rintro S1 g i W W' E hg
          exact E.fresh hg
        · rintro S1 W g x E hG1 hx
          refine (current_ W h _ b qb S1 E.k hx).mono ?_
          rintro e W' ⟨rfl, hg⟩
          exact ⟨rfl, by rw [curS_cur S1 hx]; exact E.fresh hg⟩
        · rintro S1 W g x E hG1 hx
          refine YieldAt.mono (hround #[.pointer (some ⟨qb g, 0, none⟩), .int .i64 x.q.cur] W (fun W' => CJ w h O b qb w.heap.size ns z ro (bodS (fun st => chargeS st ns) S1 g x) W')
            ({ tmps := #[.pointer (some ⟨h, 0, none⟩), .int .u64 ns, undef, .pointer (some ⟨w.heap.size, 0, none⟩), .int .i64 0, .pointer (some ⟨qb g, 0, none⟩), .bool false, .pointer (some ⟨h, 0, none⟩), .bool false, .bool false, .pointer (some ⟨h, 0, none⟩), .int .i64 rn, .bool false, .bool (decide (1000000000 < ns)), .int .u64 ns, .bool (decide (1000000000 < ns)), .pointer (some ⟨h, 0, none⟩), .func (.func 107) #[] #[.pointer (some ⟨z, 0, none⟩), .pointer (some ⟨z + 1, 0, none⟩)], .pointer (some ⟨qb g, 0, none⟩), .int .i64 x.q.cur, undef, undef, undef], defers := [] }) rfl E.lL E.dD ?_ ?_) ?_
          · intro K hK
            gi_wp2
            exact hK
          · have E1 := E.putL bo
            have cn := E1.bn.cell
            have h1n : 1 ≤ 3 - 1 - 1 := by omega
            have hs := hG1.q g x hx
            obtain ⟨Oq, q1, q2, q3, q4⟩ := E1.k.que E1.old hx
            have CH := Lib.hid (charges _ (qb g) Oq x.q ns q1 q2 hs hn)
            have Q4 := Lib.hid q4
            have Q3 := Lib.hid q3
            have EE := Lib.hid E1
            clear E E1 q1 q2 q3 q4 hs
            generalize W.putObj (z + 2 + 1) bo = V at *
            generalize x.q.cur = id0 at *
            gi_wp2_with (refine ⟨trivial, ?_⟩; gi_at_call 64; refine (CallsIn.inRound _ (callsIn_wide.2 CH.out)).mono ?_; rintro e V1 ⟨rfl, g1, g2⟩; have E2 := Lib.hid (EE.out.did (Q4.out _ _ g1 g2) (g2.mono Q3.out)))
            exact ⟨E2.out.lL, E2.out.dD, E2.out.putL ro⟩
          · rintro e W' ⟨rfl, _, _, E'⟩
            exact ⟨rfl, E'⟩
        · rintro S1 g i W E
          exact E
        · rintro e W' ⟨⟨v, rfl⟩, E⟩
          exact ⟨⟨_, rfl⟩, E.lL, E.dD, ro, E⟩
      case hdone =>
        rintro W o ⟨ro, E⟩ hK _
        rw [hs0] at *
        have E2 := Lib.hid (E.putL o)
        clear E hK E0
        generalize W.putObj (z + 2 + 1) o = V at *
        gi_wp2
        refine ⟨by simp, .inl ⟨_, _, rfl, run_takeDeferred E2.out.dD, ?_⟩⟩
        refine ⟨_, results_tmp rfl _ _ _, rfl, ?_⟩
        have sz : (V.putObj (z + 2) (.deferred none)).heap.size = V.heap.size := by simp [World.putObj]
        have ne : ∀ k, k ≠ z + 2 → (V.putObj (z + 2) (.deferred none)).heap[k]? = V.heap[k]? := fun k hk => World.putObj_heap_other hk
        exact ⟨(E2.out.k.keep fun k _ hk => ne k (fun e => hk (.inr (.inr (by omega))))).other fun k hk => .inl (.inl hk), E2.out.same.trans ⟨rfl, rfl, rfl, by rw [sz]; exact Nat.le_refl _, fun k hk => ne k (fun e => by have := HO.out k hk; omega)⟩⟩
end Go.Proofs.YtnnjbonejbmgdaaGreat.Hr
