/- The walk of ArenaPlays. Conditions: none. -/
import Derived.Test.YtpiennnkgbfbbaaArenaPlayL
import Derived.Deep.CutBlock
namespace Go.Proofs.Ytpiennnkgbfbbaa.Arena
open Go.ChangeShapes Go.WideShapes Go.ChangeAt Go.RowKit
set_option linter.unusedVariables false
set_option linter.unusedSimpArgs false

def PlayJ (w : World) (B bx : Nat) (N n : Nat) (vt : Value) (W : World) : Prop := ∃ (st : St) (T : List (Int × Int)) (v1 v2 v3 v4 : Value), Play w B bx N n vt st st T v1 v2 v3 v4 W
def PlaysI (w : World) (B bx len left : Nat) (vt t : Value) (W : World) : Prop := ∃ k : Nat, k ≤ len ∧ k ≤ 100 ∧ left = 100 - k ∧ t = .int .i64 k ∧ PlayJ w B bx k k vt W

theorem blk_ne {w : World} {b b' : Nat} {cur cur' : Array Value} {t t' : TypeId} {f f' : Nat × Nat} (h : w.heap[b]? = some (.cells cur t f)) (h' : w.heap[b']? = some (.cells cur' t' f')) (hne : t ≠ t') : some b ≠ some b' := by
  intro e
  simp at e
  subst e
  rw [h] at h'
  simp at h'
  exact hne h'.2.1
theorem Play.up {w W : World} {B bx : Nat} {N M : Int} {n m : Nat} {vt : Value} {stp st : St} {T : List (Int × Int)} {v1 v2 v3 v4 : Value} (h : Play w B bx N n vt stp st T v1 v2 v3 v4 W) (hN : N ≤ M) (hn : n ≤ m) : Play w B bx M m vt stp st T v1 v2 v3 v4 W :=
  ⟨h.hold.up hN, h.box, h.ref, h.told, Nat.le_trans h.len hn, h.lt, h.sub⟩
theorem Play.start {w W : World} {B : Nat} {r : Int} (h : Hold w (· < B) 0 B ⟨r, [], []⟩ W) (hB : w.heap.size ≤ B) (hlt : B < W.heap.size) :
    Play w B W.heap.size 0 0 (.slice none 0 0) ⟨r, [], []⟩ ⟨r, [], []⟩ [] (.slice none 0 0) (.slice none 0 0) (.slice none 0 0) (.slice none 0 0) (W.alloc (.cells #[.int .i64 r, .slice none 0 0, .slice none 0 0, .slice none 0 0, .slice none 0 0] 31)) := by
  refine ⟨(h.local _).less (fun k hk => ?_) (fun k hk => .inl (OL.sub hB _ k hk)), heap_alloc_new W _, ⟨World.ownsRow_nil _ _ _ _, World.ownsRow_nil _ _ _ _, World.ownsRow_nil _ _ _ _, World.ownsRow_nil _ _ _ _⟩, World.ownsRow_nil _ _ _ _, by simp, hlt, hB⟩
  rcases hk with (hk | ⟨v, hv, hk⟩) | hk
  · exact .inl hk
  · simp at hv
    subst hv
    cases hk
  · exact .inr hk

set_option maxRecDepth 100000 in
theorem plays_none (r : Int) (v : Option Addr) (len cap : Nat) (w : World) (hr : r < 1 ∨ 4096 < r) : Calls Try.prog 3 #[.int .i64 r, .slice v len cap] w (Yes w) := by
  have hg := Below.refl w.heap.size w
  have C1 : Hid _ := fun w => new_none w r hr
  have C2 : Hid _ := fun w => refNew_none w r hr
  clear hr
  go_enter Try.func3, Try.ntmps3
  go_wp2_with (first
    | (go_at_call 9; refine (awake _).mono ?_; rintro e w1 ⟨rfl, hg1⟩; replace hg := fresh_trans hg hg1; clear hg1)
    | (go_at_call 10; refine (C1.out _).mono ?_; rintro e w2 ⟨rfl, rfl⟩)
    | (go_at_call 11; refine (C2.out _).mono ?_; rintro e w3 ⟨rfl, hg1⟩; replace hg := fresh_trans hg hg1; clear hg1))
  go_ret
  exact ⟨rfl, hg.alloc hg.size _⟩

set_option maxRecDepth 100000 in
set_option maxHeartbeats 2000000 in
theorem plays_as (r : Int) (v : Option Addr) (len cap : Nat) (w : World) (hlen : len ≤ 9223372036854775807) (h1 : 1 ≤ r) (h2 : r ≤ 4096)
    (HC : Hid (∀ j, j < len → ∃ k off, v = some ⟨k, off, none⟩ ∧ k < w.heap.size ∧ ∃ d0 d1 d2 d3 d4 : Int, w.cell? ⟨k, off + j * 5, none⟩ = some (.int .i64 d0) ∧ w.cell? ⟨k, off + j * 5 + 1, none⟩ = some (.int .i64 d1) ∧ w.cell? ⟨k, off + j * 5 + 2, none⟩ = some (.int .i64 d2) ∧ w.cell? ⟨k, off + j * 5 + 3, none⟩ = some (.int .i64 d3) ∧ w.cell? ⟨k, off + j * 5 + 4, none⟩ = some (.int .i64 d4))) :
    Calls Try.prog 3 #[.int .i64 r, .slice v len cap] w (Yes w) := by
  obtain ⟨i0, hi, hz0, hz1, hz2⟩ := info_parts infoH
  have hg := Below.refl w.heap.size w
  have C2 : Hid _ := fun w => refNew w r h1 h2
  have C1 : Hid _ := fun w1 hg => newHold w w1 r hg h1 h2
  go_enter Try.func3, Try.ntmps3
  go_wp2_with (first
    | (go_at_call 9; refine (awake _).mono ?_; rintro e w1 ⟨rfl, hg1⟩; replace hg := fresh_trans hg hg1; clear hg1)
    | (go_at_call 10; refine (C1.out _ hg).mono ?_; rintro e w2 ⟨rfl, hH, _⟩)
    | (go_at_call 11; refine (C2.out _).mono ?_; rintro e w3 ⟨rfl, hg3⟩; replace hH := hH.fresh hg3; clear hg3))
  have hB := hg.size
  have hP := Play.start hH hB hH.pool.lt
  clear hH C1 C2
  generalize w3.alloc (.cells #[.int .i64 r, .slice none 0 0, .slice none 0 0, .slice none 0 0, .slice none 0 0] 31) = W at *
  generalize w3.heap.size = bx at *
  generalize w1.heap.size = B at *
  go_loopg [10, 11] 100 (fun left vt t wr => PlaysI w B bx len left vt t wr)
  case atStart => exact ⟨0, by omega, by omega, rfl, rfl, _, _, _, _, _, _, hP⟩
  case round =>
    clear hP
    obtain ⟨k, hk1, hk2, rfl, rfl, st, T, v1, v2, v3, v4, hP⟩ := hrel
    by_cases hlt : k < len ∧ k < 100
    · obtain ⟨h3, h4⟩ := hlt
      have h5 : (k : Int) < len := by omega
      have h6 : (k : Int) < 100 := by omega
      obtain ⟨a, off, rfl, ha, d0, d1, d2, d3, d4, c0, c1, c2, c3, c4⟩ := HC.out k h3
      have e0 := (hP.hold.below.cell ha).trans c0
      have e1 := (hP.hold.below.cell ha).trans c1
      have e2 := (hP.hold.below.cell ha).trans c2
      have e3 := (hP.hold.below.cell ha).trans c3
      have e4 := (hP.hold.below.cell ha).trans c4
      have hTl := hP.len
      go_upto_region 14 with (go_at_call 12; refine (which _ B _ T d0 d1 d2 d3 d4 (hP.told.alloc _) (by omega)).mono ?_; rintro e w5 ⟨i, g, rfl, hg5⟩)
      have bd := (hg5.block _ (by simp)).trans (heap_alloc_new wr (.cells #[.int .i64 d0, .int .i64 d1, .int .i64 d2, .int .i64 d3, .int .i64 d4] 38))
      have hgA := (((Below.refl _ wr).alloc (Nat.le_refl _) (.cells #[.int .i64 d0, .int .i64 d1, .int .i64 d2, .int .i64 d3, .int .i64 d4] 38)).trans (hg5.mono (by simp))).alloc (by have := hg5.size; simp at this; omega) (.cells #[.int .i64 i, .int .i64 g] 36)
      replace hP := hP.fresh hgA
      replace bd := box_new (o' := .cells #[.int .i64 i, .int .i64 g] 36) bd
      have bh := heap_alloc_new w5 (.cells #[.int .i64 i, .int .i64 g] 36)
      clear hg5 hgA e0 e1 e2 e3 e4 c0 c1 c2 c3 c4
      generalize w5.alloc (.cells #[.int .i64 i, .int .i64 g] 36) = WA at *
      generalize wr.heap.size = kd at *
      generalize w5.heap.size = kh at *
      obtain ⟨x0, x1, x2, x3, x4, _⟩ := five bd
      obtain ⟨y0, y1, _⟩ := pair bh
      go_upto_block 2 with fail
      go_cut [10] (fun vt wc => PlayJ w B bx (k + 1) (k + 1) vt wc)
      case first =>
        have hH := (hP.hold.guard bd (by decide) (by decide) (by decide)).guard bh (by decide) (by decide) (by decide)
        have hI := hP.hold.inv
        have l1 := hI.l1
        by_cases q0 : d0 = 0
        · subst q0
          have hTl := hP.len
          go_upto_region 22 with (go_at_call 13; refine (hH.put d1 (by omega)).mono ?_; rintro e wb ⟨rfl, hHb, hsb⟩)
          have hPb := hP.did hHb hsb
          have bdb := (hsb.block kd (.inl (.inr rfl))).trans bd
          have ba := heap_alloc_new wb (.cells #[.int .i64 (st.put d1).i, .int .i64 (st.put d1).g] 36)
          have hPB := hPb.fresh ((Below.refl _ wb).alloc (Nat.le_refl _) (.cells #[.int .i64 (st.put d1).i, .int .i64 (st.put d1).g] 36))
          have bdB := box_new (o' := .cells #[.int .i64 (st.put d1).i, .int .i64 (st.put d1).g] 36) bdb
          clear hP hPb bdb hHb hsb hH bd bh x0 x1 x2 x3 x4 y0 y1
          generalize wb.alloc (.cells #[.int .i64 (st.put d1).i, .int .i64 (st.put d1).g] 36) = WB at *
          generalize wb.heap.size = ka at *
          obtain ⟨x0, x1, x2, x3, x4, _⟩ := five bdB
          obtain ⟨m0, m1, m2, m3, m4, _⟩ := five hPB.box
          go_upto_region 23 with (go_at_call 14; refine (refPut d1 hPB.ref hPB.B_le hI).mono ?_; rintro e wc ⟨u1, u2, u3, u4, rfl, hR, hN, hgc⟩; obtain ⟨p1, t1, e1⟩ := owns_shape hR.o1; obtain ⟨p2, t2, e2⟩ := owns_shape hR.o2; obtain ⟨p3, t3, e3⟩ := owns_shape hR.o3; obtain ⟨p4, t4, e4⟩ := owns_shape hR.o4; subst e1 e2 e3 e4)
          have hgC := (hgc.alloc hgc.size (.cells #[.int .i64 st.room, .slice p1 (st.put d1).st.pl.length t1, .slice p2 (st.put d1).st.pl.length t2, .slice p3 (st.put d1).st.pl.length t3, .slice p4 (st.put d1).st.fr.length t4] 31)).alloc (by have := hgc.size; simp; omega) (.cells #[.int .i64 (st.put d1).i, .int .i64 (st.put d1).g] 36)
          have hRC := owns_alloc5 (owns_alloc5 hR (.cells #[.int .i64 st.room, .slice p1 (st.put d1).st.pl.length t1, .slice p2 (st.put d1).st.pl.length t2, .slice p3 (st.put d1).st.pl.length t3, .slice p4 (st.put d1).st.fr.length t4] 31)) (.cells #[.int .i64 (st.put d1).i, .int .i64 (st.put d1).g] 36)
          have b16 := box_new (o' := .cells #[.int .i64 (st.put d1).i, .int .i64 (st.put d1).g] 36) (heap_alloc_new wc (.cells #[.int .i64 st.room, .slice p1 (st.put d1).st.pl.length t1, .slice p2 (st.put d1).st.pl.length t2, .slice p3 (st.put d1).st.pl.length t3, .slice p4 (st.put d1).st.fr.length t4] 31))
          have b17 : ((wc.alloc (.cells #[.int .i64 st.room, .slice p1 (st.put d1).st.pl.length t1, .slice p2 (st.put d1).st.pl.length t2, .slice p3 (st.put d1).st.pl.length t3, .slice p4 (st.put d1).st.fr.length t4] 31)).alloc (.cells #[.int .i64 (st.put d1).i, .int .i64 (st.put d1).g] 36)).heap[wc.heap.size + 1]? = some (.cells #[.int .i64 (st.put d1).i, .int .i64 (st.put d1).g] 36) := by simpa using heap_alloc_new (wc.alloc (.cells #[.int .i64 st.room, .slice p1 (st.put d1).st.pl.length t1, .slice p2 (st.put d1).st.pl.length t2, .slice p3 (st.put d1).st.pl.length t3, .slice p4 (st.put d1).st.fr.length t4] 31)) (.cells #[.int .i64 (st.put d1).i, .int .i64 (st.put d1).g] 36)
          have baC := (hgC.block ka (lt_of ba)).trans ba
          have boxC := (hPB.fresh hgC).box
          clear hgc hR m0 m1 m2 m3 m4 x0 x1 x2 x3 x4
          generalize (wc.alloc (.cells #[.int .i64 st.room, .slice p1 (st.put d1).st.pl.length t1, .slice p2 (st.put d1).st.pl.length t2, .slice p3 (st.put d1).st.pl.length t3, .slice p4 (st.put d1).st.fr.length t4] 31)).alloc (.cells #[.int .i64 (st.put d1).i, .int .i64 (st.put d1).g] 36) = WC at *
          obtain ⟨m0, m1, m2, m3, m4, mz⟩ := five boxC
          obtain ⟨n0, n1, n2, n3, n4, _⟩ := five b16
          go_upto_region 24 with fail
          have hPD := hPB.turn hgC hRC hN (put_room st d1)
          have hS := set5_grown WC bx (.int .i64 st.room) (.slice p1 (st.put d1).st.pl.length t1) (.slice p2 (st.put d1).st.pl.length t2) (.slice p3 (st.put d1).st.pl.length t3) (.slice p4 (st.put d1).st.fr.length t4)
          have baD := box_kept baC hS (blk_ne boxC baC (by decide))
          have b17D := box_kept b17 hS (blk_ne boxC b17 (by decide))
          clear m0 m1 m2 m3 m4 mz n0 n1 n2 n3 n4 hS hgC hRC hN b16 b17 baC boxC hPB ba bdB
          generalize ((((WC.setCell ⟨bx, 0, none⟩ (.int .i64 st.room)).setCell ⟨bx, 1, none⟩ (.slice p1 (st.put d1).st.pl.length t1)).setCell ⟨bx, 2, none⟩ (.slice p2 (st.put d1).st.pl.length t2)).setCell ⟨bx, 3, none⟩ (.slice p3 (st.put d1).st.pl.length t3)).setCell ⟨bx, 4, none⟩ (.slice p4 (st.put d1).st.fr.length t4) = WD at *
          obtain ⟨y0, y1, _⟩ := pair baD
          obtain ⟨z0, z1, _⟩ := pair b17D
          have hBD := hPD.B_le
          go_wp2_with (at_builtin; refine wpList_append_lies _ rfl (.tmp 123) (.tmp 125) 34 rfl B 36 i0 _ 2 16 Try.underlying34 hi hz0 hz1 hz2 rfl (by decide) _ _ _ rfl (hPD.told.alloc _) ⟨WD.heap.size, 0, none⟩ 1 1 [.int .i64 (st.put d1).i, .int .i64 (st.put d1).g] rfl rfl (World.news_of_block (heap_alloc_new WD _)) (by simp [Value.oneCell']) (by decide) (by simp only [maxLen]; omega) (by omega) (by simp; omega) (WD.heap.size + 1) (by simp) ?_; intro g9 c9 w9 hown9 hgrow9 hat9 hlt9)
          go_meet
          case rel => exact ⟨(st.put d1).st, T ++ [((st.put d1).i, (st.put d1).g)], _, _, _, _, (hPD.tell (p := ((st.put d1).i, (st.put d1).g)) hgrow9 hown9 hat9 hlt9).up (by omega) (by omega)⟩
        by_cases q1 : d0 = 1
        · subst q1
          go_wp2_with (first
            | (go_at_call 15; refine (hH.get i g).mono ?_; rintro e wb ⟨rfl, hHb, hsb⟩; have hPb := hP.did hHb hsb; have bhb := (hsb.block kh (.inr rfl)).trans bh; clear hH hHb hsb x0 x1 x2 x3 x4 y0 y1; obtain ⟨y0, y1, _⟩ := pair bhb; obtain ⟨m0, m1, m2, m3, m4, _⟩ := five hPb.box)
            | (go_at_call 16; refine (refGet wb B st.room v1 v2 v3 v4 st i g hPb.ref l1).mono ?_; rintro e wc ⟨rfl, hgc⟩))
          go_meet
          case rel => exact ⟨st, T, v1, v2, v3, v4, (hPb.fresh hgc).up (by omega) (by omega)⟩
        by_cases q2 : d0 = 2
        · subst q2
          go_wp2_with (first
            | (go_at_call 17; refine (hH.set i g d1).mono ?_; rintro e wb ⟨rfl, hHb, hsb⟩; have hPb := hP.did hHb hsb; have bhb := (hsb.block kh (.inr rfl)).trans bh; have bdb := (hsb.block kd (.inl (.inr rfl))).trans bd; clear hH hHb hsb x0 x1 x2 x3 x4 y0 y1; obtain ⟨y0, y1, _⟩ := pair bhb; obtain ⟨x0, x1, x2, x3, x4, _⟩ := five bdb; obtain ⟨m0, m1, m2, m3, m4, _⟩ := five hPb.box)
            | (go_at_call 18; refine (refSet i g d1 hPb.ref hPb.B_le hI).mono ?_; rintro e wc ⟨u1, u2, u3, u4, rfl, hR, hN, hgc⟩; clear m0 m1 m2 m3 m4; have ha := fun o => five (box_new (o' := o) (hPb.fresh hgc).box); have m0 := fun o => (ha o).1; have m1 := fun o => (ha o).2.1; have m2 := fun o => (ha o).2.2.1; have m3 := fun o => (ha o).2.2.2.1; have m4 := fun o => (ha o).2.2.2.2.1; have mz := fun o => (ha o).2.2.2.2.2; clear ha; obtain ⟨p1, t1, e1⟩ := owns_shape hR.o1; obtain ⟨p2, t2, e2⟩ := owns_shape hR.o2; obtain ⟨p3, t3, e3⟩ := owns_shape hR.o3; obtain ⟨p4, t4, e4⟩ := owns_shape hR.o4; subst e1 e2 e3 e4))
          go_meet
          case rel => exact ⟨st.set i g d1, T, _, _, _, _, (hPb.turn (hgc.alloc hgc.size _) (owns_alloc5 hR _) hN (set_room st i g d1)).up (by omega) (by omega)⟩
        have f0 : (d0 == 0) = false := by simpa using q0
        have f1 : (d0 == 1) = false := by simpa using q1
        have f2 : (d0 == 2) = false := by simpa using q2
        go_wp2_with (first
          | (go_at_call 19; refine (hH.free i g (by omega)).mono ?_; rintro e wb ⟨rfl, hHb, hsb⟩; have hPb := hP.did hHb hsb; have bhb := (hsb.block kh (.inr rfl)).trans bh; clear hH hHb hsb x0 x1 x2 x3 x4 y0 y1; obtain ⟨y0, y1, _⟩ := pair bhb; obtain ⟨m0, m1, m2, m3, m4, _⟩ := five hPb.box)
          | (go_at_call 20; refine (refFree i g hPb.ref hPb.B_le hI (by omega)).mono ?_; rintro e wc ⟨u1, u2, u3, u4, rfl, hR, hN, hgc⟩; clear m0 m1 m2 m3 m4; have ha := fun o => five (box_new (o' := o) (hPb.fresh hgc).box); have m0 := fun o => (ha o).1; have m1 := fun o => (ha o).2.1; have m2 := fun o => (ha o).2.2.1; have m3 := fun o => (ha o).2.2.2.1; have m4 := fun o => (ha o).2.2.2.2.1; have mz := fun o => (ha o).2.2.2.2.2; clear ha; obtain ⟨p1, t1, e1⟩ := owns_shape hR.o1; obtain ⟨p2, t2, e2⟩ := owns_shape hR.o2; obtain ⟨p3, t3, e3⟩ := owns_shape hR.o3; obtain ⟨p4, t4, e4⟩ := owns_shape hR.o4; subst e1 e2 e3 e4))
        go_meet
        case rel => exact ⟨st.free i g, T, _, _, _, _, (hPb.turn (hgc.alloc hgc.size _) (owns_alloc5 hR _) hN (free_room st i g)).up (by omega) (by omega)⟩
      case rest =>
        clear hP bd bh x0 x1 x2 x3 x4 y0 y1
        obtain ⟨st, T, v1, v2, v3, v4, hP⟩ := hcut
        obtain ⟨m0, m1, m2, m3, m4, _⟩ := five hP.box
        have l1 := hP.hold.inv.l1
        have hcnt : Hid ((hs st.pl st.pl.length).length = cnt st.pl) := by show _ = _; rw [hs_cnt, List.take_length]
        have hcl := cnt_le st.pl
        go_wp2_with (first
          | (go_at_call 21; refine (refAll wc B st.room v1 v2 v3 v4 st hP.ref l1).mono ?_; rintro e w6 ⟨va, rfl, hva, hg6⟩; replace hP := hP.fresh hg6; rw [hcnt.out] at hva; obtain ⟨ao, ca, rfl⟩ := owns_shape hva; clear hg6 m0 m1 m2 m3 m4)
          | (go_at_call 22; refine (lens hP.hold.pool hP.hold.inv).mono ?_; rintro e w7 ⟨rfl, hg7⟩; replace hP := hP.fresh hg7; replace hva := owns_fresh hva hg7; clear hg7)
          | (go_at_call 24; refine (all w7 B _ st hP.hold.pool l1).mono ?_; rintro e w8 ⟨vb, rfl, hvb, hg8⟩; replace hP := hP.fresh hg8; replace hva := owns_fresh hva hg8; clear hg8)
          | (go_at_call 23; refine (refSame w8 _ _ _ _ (hs st.pl st.pl.length) hvb (by rw [hcnt.out]; exact hva) (by have := hcnt.out; omega)).mono ?_; rintro e w9 ⟨rfl, hg9⟩; replace hP := hP.fresh hg9))
        go_roundg (100 - (k + 1))
        case measure => omega
        case rel => exact ⟨k + 1, by omega, by omega, rfl, by go_num, st, T, v1, v2, v3, v4, hP⟩
    · have hd : ¬ (k : Int) < len ∨ ((k : Int) < len ∧ ¬ (k : Int) < 100) := by omega
      rcases hd with h5 | ⟨h5, h6⟩
      all_goals
        go_wp2
        go_ret
        exact ⟨rfl, hP.hold.below⟩
theorem playsLaw (r : Int) (v : Option Addr) (len cap : Nat) (w : World) (hlen : len ≤ 9223372036854775807)
    (hc : ∀ j, j < len → ∃ k off, v = some ⟨k, off, none⟩ ∧ k < w.heap.size ∧ ∃ d0 d1 d2 d3 d4 : Int, w.cell? ⟨k, off + j * 5, none⟩ = some (.int .i64 d0) ∧ w.cell? ⟨k, off + j * 5 + 1, none⟩ = some (.int .i64 d1) ∧ w.cell? ⟨k, off + j * 5 + 2, none⟩ = some (.int .i64 d2) ∧ w.cell? ⟨k, off + j * 5 + 3, none⟩ = some (.int .i64 d3) ∧ w.cell? ⟨k, off + j * 5 + 4, none⟩ = some (.int .i64 d4)) :
    Calls Try.prog 3 #[.int .i64 r, .slice v len cap] w (Yes w) := by
  by_cases h : r < 1 ∨ 4096 < r
  · exact plays_none r v len cap w h
  · exact plays_as r v len cap w hlen (by omega) (by omega) hc
end Go.Proofs.Ytpiennnkgbfbbaa.Arena
