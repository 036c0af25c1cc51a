/- The walk of QuotaPlays. Conditions: none. -/
import Derived.Test.YtjjcaplkmbigdaaQuotaRefK
import Derived.Deep.CutBlock
namespace Go.Proofs.Ytjjcaplkmbigdaa.Quota
open Go.ChangeShapes Go.WideShapes Go.ChangeAt Go.RowKit Mem
open Fix (I64)
set_option linter.unusedVariables false
set_option linter.unusedSimpArgs false
set_option maxRecDepth 100000

def SameI (W0 : World) (n : Nat) (left : Nat) (t : Value) (wr : World) : Prop := ∃ j : Int, -1 ≤ j ∧ j ≤ n + 1 ∧ left = (n + 2 - (j + 1)).toNat ∧ t = .int .i64 j ∧ Below W0.heap.size W0 wr
set_option maxHeartbeats 1000000 in
theorem sames (w : World) (b B g c : Nat) (O : Nat → Prop) (d : Bd) (hB : Band w b O d) (hR : RefAt B g c d w) (hn : d.loc.length ≤ 64) : Calls Try.prog 23 #[.pointer (some ⟨b, 0, none⟩), refB d g c] w (IsB true w) := by
  have hg0 := alloc1 w (refO d g c)
  have hb0 := heap_alloc_new w (refO d g c)
  have LC := Lib.hid (fun w' j (hg : Below (w.alloc (refO d g c)).heap.size (w.alloc (refO d g c)) w') => locals w' b O d j ((hB.fresh hg0).fresh hg))
  have RL := Lib.hid (fun w' j (hg : Below (w.alloc (refO d g c)).heap.size (w.alloc (refO d g c)) w') => refLocal w' B g c d j ((hR.fresh hg0).fresh hg))
  have PL : Hid (∀ w', Below (w.alloc (refO d g c)).heap.size (w.alloc (refO d g c)) w' → Calls Try.prog 28 #[.pointer (some ⟨b, 0, none⟩)] w' (fun e w'' => e = .returned (.int .i64 d.p) ∧ w'' = w')) := fun w' hg => (pool w' b O d ((hB.fresh hg0).fresh hg)).mono fun e w'' ⟨r1, r2⟩ => ⟨r1, r2.symm⟩
  have SL : Hid (∀ w', Below (w.alloc (refO d g c)).heap.size (w.alloc (refO d g c)) w' → Calls Try.prog 26 #[.pointer (some ⟨b, 0, none⟩)] w' (fun e w'' => e = .returned (.int .i64 d.sp) ∧ w'' = w')) := fun w' hg => (spent w' b O d ((hB.fresh hg0).fresh hg)).mono fun e w'' ⟨r1, r2⟩ => ⟨r1, r2.symm⟩
  have LL : Hid (∀ w', Below (w.alloc (refO d g c)).heap.size (w.alloc (refO d g c)) w' → Calls Try.prog 30 #[.pointer (some ⟨b, 0, none⟩)] w' (fun e w'' => e = .returned (.bool (decide (0 < d.q))) ∧ w'' = w')) := fun w' hg => (limited w' b O d ((hB.fresh hg0).fresh hg)).mono fun e w'' ⟨r1, r2⟩ => ⟨r1, r2.symm⟩
  unfold refB refO at *
  generalize hlen : d.loc.length = n at *
  clear hB hR
  go_enter Try.func23, Try.ntmps23
  go_upto_region 1 with fail
  generalize w.alloc (.cells #[.int .i64 d.q, .int .i64 d.s, .int .i64 d.p, .int .i64 d.sp, .slice (some ⟨g, 0, none⟩) n c] 30) = W0 at *
  go_wp2_with fail
  go_loopg [5] (n + 2) (fun left t wr => SameI W0 n left t wr)
  case atStart => exact ⟨-1, by omega, by omega, by omega, rfl, Below.refl _ _⟩
  case round =>
    obtain ⟨j, j0, j1, rfl, rfl, hbw⟩ := hrel
    have hbx := box_fresh hb0 hbw
    obtain ⟨a0, a1, a2, a3, a4, az⟩ := five hbx
    by_cases hlt : j ≤ n
    · have h3 : decide (j ≤ (n : Int)) = true := by simpa using hlt
      have L1 := Lib.hid (LC.out wr.drew j (hbw.drew))
      have RL1 := Lib.hid (fun w' hg => RL.out w' j hg)
      have hg0' := Below.refl wr.heap.size wr
      have NX : Hid (∀ w', Below wr.heap.size wr w' → SameI W0 n ((n + 2 - (j + 1)).toNat - 1) (.int .i64 (j + 1)) w') := fun w' hg => ⟨j + 1, by omega, by omega, by omega, rfl, hbw.trans (hg.mono hbw.size)⟩
      have BX := Lib.hid (fun w' hg => five (box_fresh (w' := w') hbx hg))
      have HW := Lib.hid hbw
      clear LC RL PL SL LL hbw hbx
      generalize d.local j = x at *
      go_wp2_with fail
      go_region_held3 (fun w' => w'.cell? ⟨w.heap.size, 0, none⟩ = some (.int .i64 d.q) ∧ w'.cell? ⟨w.heap.size, 1, none⟩ = some (.int .i64 d.s) ∧ w'.cell? ⟨w.heap.size, 2, none⟩ = some (.int .i64 d.p) ∧ w'.cell? ⟨w.heap.size, 3, none⟩ = some (.int .i64 d.sp) ∧ w'.cell? ⟨w.heap.size, 4, none⟩ = some (.slice (some ⟨g, 0, none⟩) n c)) (first | exact ⟨a0, a1, a2, a3, a4⟩ | exact ⟨b0, b1, b2, b3, b4⟩ | go_keep)
        (first
          | (go_at_call 29; refine L1.out.mono ?_; rintro e w2 ⟨rfl, hw⟩; subst hw)
          | (go_at_call 38; refine (RL1.out _ (HW.out.drew)).mono ?_; rintro e w3 ⟨rfl, hg3⟩; have hg4 := hg0'.drew.trans (hg3.mono hg0'.drew.size); clear hg3; obtain ⟨b0, b1, b2, b3, b4, bz⟩ := BX.out _ hg4))
      go_wp2_with fail
      go_roundg ((n + 2 - (j + 1)).toNat - 1)
      case measure => omega
      case rel => exact NX.out _ hg4
    · obtain rfl : j = n + 1 := by omega
      have h3 : decide ((n : Int) + 1 ≤ (n : Int)) = false := decide_eq_false (by omega)
      have PL1 : Hid (∀ nq, Calls Try.prog 28 #[.pointer (some ⟨b, 0, none⟩)] (wr.drewN nq) (fun e w'' => e = .returned (.int .i64 d.p) ∧ w'' = wr.drewN nq)) := fun nq => PL.out _ (hbw.trans ((drawn wr nq).mono hbw.size))
      have SL1 : Hid (∀ nq, Calls Try.prog 26 #[.pointer (some ⟨b, 0, none⟩)] (wr.drewN nq) (fun e w'' => e = .returned (.int .i64 d.sp) ∧ w'' = wr.drewN nq)) := fun nq => SL.out _ (hbw.trans ((drawn wr nq).mono hbw.size))
      have LL1 : Hid (∀ nq, Calls Try.prog 30 #[.pointer (some ⟨b, 0, none⟩)] (wr.drewN nq) (fun e w'' => e = .returned (.bool (decide (0 < d.q))) ∧ w'' = wr.drewN nq)) := fun nq => LL.out _ (hbw.trans ((drawn wr nq).mono hbw.size))
      have HF := Lib.hid (fun nq => (hg0.trans (hbw.mono hg0.size)).trans ((drawn wr nq).mono (hg0.trans (hbw.mono hg0.size)).size))
      clear LC RL PL SL LL hbw hbx
      generalize d.p = dp at *
      generalize d.sp = ds at *
      generalize d.q = dq at *
      generalize d.s = dss at *
      go_wp2_with fail
      go_quiet (first
        | (go_at_call 28; exact Calls.quiet_of_same (PL1.out _))
        | (go_at_call 26; exact Calls.quiet_of_same (SL1.out _))
        | (go_at_call 30; exact Calls.quiet_of_same (LL1.out _)))
      go_wp2_with fail
      go_ret
      exact ⟨by simp, HF.out _⟩

/-- The blocks that are held apart: those below B, the document's band's box, its row. -/
def OR (B bx g : Nat) : Nat → Prop := fun j => j < B ∨ j = bx ∨ j = g
structure Play (w : World) (B bx b n : Nat) (M : Int) (d : Bd) (g c : Nat) (W : World) : Prop where
  band : Band W b (OR B bx g) d
  box : W.heap[bx]? = some (.cells #[.int .i64 d.q, .int .i64 d.s, .int .i64 d.p, .int .i64 d.sp, .slice (some ⟨g, 0, none⟩) d.loc.length c] 30 (0, 0))
  row : RefAt B g c d W
  inv : Inv M M d
  len : d.loc.length = n
  bB : B ≤ bx
  wB : w.heap.size ≤ B
  below : Below w.heap.size w W
section
variable {w W W2 W4 : World} {B bx b n g c g' c' : Nat} {M M' : Int} {d d' : Bd}
theorem Play.lt (h : Play w B bx b n M d g c W) : ∀ j, OR B bx g j → j < W.heap.size := by
  rintro j (hj | rfl | rfl)
  · have := lt_of h.box; have := h.bB; omega
  · exact lt_of h.box
  · exact h.row.ge.2
theorem Play.fresh (h : Play w B bx b n M d g c W) (hg : Below W.heap.size W W2) : Play w B bx b n M d g c W2 :=
  ⟨h.band.fresh hg, box_fresh h.box hg, h.row.fresh hg, h.inv, h.len, h.bB, h.wB, h.below.trans (hg.mono h.below.size)⟩
/-- Beside one block more. -/
theorem Play.with (h : Play w B bx b n M d g c W) (o : Obj) : Band (W.alloc o) b (With (OR B bx g) W.heap.size) d ∧ ∀ j, With (OR B bx g) W.heap.size j → j < (W.alloc o).heap.size :=
  ⟨(h.band.other (fun k hk => hk.elim .inl fun e => .inr (by omega))).fresh (alloc1 W o), with_alloc h.lt o⟩
/-- Behind the program's call. -/
theorem Play.mid (h : Play w B bx b n M d g c W) (hs : Same (OR B bx g) W W2) : W2.heap[bx]? = some (.cells #[.int .i64 d.q, .int .i64 d.s, .int .i64 d.p, .int .i64 d.sp, .slice (some ⟨g, 0, none⟩) d.loc.length c] 30 (0, 0)) ∧ RefAt B g c d W2 ∧ Below w.heap.size w W2 ∧ B ≤ W2.heap.size := by
  have hb := (hs.block bx (.inr (.inl rfl))).trans h.box
  refine ⟨hb, owns_same h.row hs (fun k hk => .inr (.inr (by simpa [Value.ownBlock] using hk.symm))), h.below.trans (hs.mono (fun k hk => .inl (Nat.lt_of_lt_of_le hk h.wB))).below, ?_⟩
  have := lt_of hb; have := h.bB; omega
theorem Band.away {O : Nat → Prop} {p : Addr} (h : Band W b O d) (hp : O p.block) (u : Value) : Band (W.setCell p u) b O d := by
  obtain ⟨gg, h⟩ := h
  refine ⟨gg, ?_, h.out, ?_, h.rout⟩
  · rw [Below.heap_setCell _ _ _ _ (fun e => h.out (by rw [e]; exact hp))]
    exact h.blk
  · have hne : gg ≠ p.block := fun e => h.rout (by rw [e]; exact hp)
    exact h.row.kept (show W.grownBy (W.setCell p u) (some p.block) from ⟨rfl, rfl, rfl, by simp [World.setCell], fun k _ hk => Below.heap_setCell _ _ _ _ (fun e => hk (by simp [e]))⟩) (.inr (by simpa [Value.ownBlock] using hne))
/-- And behind the document's, and the store. -/
theorem Play.turn (h : Play w B bx b n M d g c W) (hs : Same (OR B bx g) W W2) (hB2 : Band W2 b (OR B bx g) d') (hI : Inv M' M' d') (hl : d'.loc.length = d.loc.length) (hR : RefAt B g' c' d' W4) (hgg : g' = g ∨ W2.heap.size ≤ g') (h24 : Below W2.heap.size W2 W4) :
    Play w B bx b n M' d' g' c' (((((W4.setCell ⟨bx, 0, none⟩ (.int .i64 d'.q)).setCell ⟨bx, 1, none⟩ (.int .i64 d'.s)).setCell ⟨bx, 2, none⟩ (.int .i64 d'.p)).setCell ⟨bx, 3, none⟩ (.int .i64 d'.sp)).setCell ⟨bx, 4, none⟩ (.slice (some ⟨g', 0, none⟩) d'.loc.length c')) := by
  obtain ⟨m1, m2, m3, m4⟩ := h.mid hs
  have hb4 := box_fresh m1 h24
  have hgne : g' ≠ bx := fun e => own_ne hR hb4 (by decide) (by rw [← e]; rfl)
  have hBd : Band W4 b (OR B bx g') d' := (hB2.other (O' := OR B bx g') (by
    rintro k (hk | rfl | rfl)
    · exact .inl (.inl hk)
    · exact .inl (.inr (.inl rfl))
    · rcases hgg with rfl | hgg
      · exact .inl (.inr (.inr rfl))
      · exact .inr hgg)).fresh h24
  have hO : OR B bx g' bx := .inr (.inl rfl)
  have hwb : w.heap.size ≤ bx := Nat.le_trans h.wB h.bB
  exact ⟨((((hBd.away hO _).away hO _).away hO _).away hO _).away hO _, set5_block hb4 _ _ _ _ _, hR.box hgne _ _ _ _ _, hI, hl.trans h.len, h.bB, h.wB, below_set5 (m3.trans (h24.mono m3.size)) hwb _ _ _ _ _⟩
end
theorem Inv.chg_any {M : Int} {d : Bd} (h : Inv M M d) (p ns : Int) : Inv (M + 1000000000) (M + 1000000000) (chgS d p ns) := by
  have m0 := h.m0
  by_cases hc : chgE d p ns = 0
  · have hn : 0 ≤ ns ∧ ns ≤ 1000000000 := by
      unfold chgE at hc
      split at hc
      · split at hc
        · cases hc
        · omega
      · cases hc
    have a := h.at_ge p.toNat
    exact (h.chg (M' := M + 1000000000) hn.1 (by omega) (fun _ => by omega)).up (Int.le_refl _) (by omega)
  · rw [show chgS d p ns = d by simp [chgS, hc]]
    exact h.up (by omega) (by omega)

def PlaysI (w : World) (B bx b n : Nat) (left : Nat) (t : Value) (W : World) : Prop := ∃ (k : Nat) (d : Bd) (g c : Nat), k ≤ 100 ∧ left = 100 - k ∧ t = .int .i64 k ∧ Play w B bx b n (k * 1000000000) d g c W
def PlaysJ (w : World) (B bx b n k : Nat) (W : World) : Prop := ∃ (d : Bd) (g c : Nat), Play w B bx b n ((k + 1 : Nat) * 1000000000) d g c W
/-- What is to be done lies in a slice. -/
def Deeds (v : Option Addr) (len : Nat) (w : World) : Prop := ∀ j, j < len → ∃ kb off, v = some ⟨kb, off, none⟩ ∧ kb < w.heap.size ∧ ∃ e0 e1 e2 e3 : Int, w.cell? ⟨kb, off + j * 4, none⟩ = some (.int .i64 e0) ∧ w.cell? ⟨kb, off + j * 4 + 1, none⟩ = some (.int .i64 e1) ∧ w.cell? ⟨kb, off + j * 4 + 2, none⟩ = some (.int .i64 e2) ∧ w.cell? ⟨kb, off + j * 4 + 3, none⟩ = some (.int .i64 e3)

theorem plays_none (n : Int) (v : Option Addr) (len cap : Nat) (w : World) (hn : n < 1 ∨ 64 < n) : Calls Try.prog 3 #[.int .i64 n, .slice v len cap] w (Yes w) := by
  have hg := Below.refl w.heap.size w
  have C1 := Lib.hid (fun w => new_none w n hn)
  have C2 := Lib.hid (fun w => refNew_none w n hn)
  clear hn
  go_enter Try.func3, Try.ntmps3
  go_wp2_with (first
    | (go_at_call 10; refine (awake _).mono ?_; rintro e w1 ⟨rfl, hg1⟩; replace hg := hg.trans (hg1.mono hg.size); clear hg1)
    | (go_at_call 11; refine (C1.out _).mono ?_; rintro e w2 ⟨rfl, rfl⟩)
    | (go_at_call 12; refine (C2.out _).mono ?_; rintro e w3 ⟨rfl, hg1⟩; replace hg := hg.trans (hg1.mono hg.size); clear hg1))
  go_ret
  exact ⟨rfl, hg.alloc hg.size _⟩

set_option maxHeartbeats 2000000 in
theorem plays_as (n : Nat) (v : Option Addr) (len cap : Nat) (w : World) (h1 : 1 ≤ n) (h2 : n ≤ 64) (hlen : len ≤ 9223372036854775807) (HC : Hid (Deeds v len w)) :
    Calls Try.prog 3 #[.int .i64 n, .slice v len cap] w (Yes w) := by
  have C1 := Lib.hid (fun w => new w n h1 h2)
  have C2 := Lib.hid (fun w => refNew w n h1 h2)
  have I0 : Inv 0 0 (newS n) := Inv.new n h2 (by omega)
  have L0 := len_new n
  unfold IsNew at C1
  unfold refB at C2
  generalize newS n = dd at *
  rw [L0] at C2
  go_enter Try.func3, Try.ntmps3
  go_wp2_with fail
  go_at_call 10; refine (awake _).mono ?_; rintro e w1 ⟨rfl, hg1⟩
  have K1 := Lib.hid (C1.out w1)
  go_wp2_with fail
  generalize hbq : w1.heap.size + 1 = b at K1
  clear hbq
  go_at_call 11; refine K1.out.mono ?_; rintro e w2 ⟨rfl, hB2, hg2⟩
  go_wp2_with fail
  go_at_call 12; refine (C2.out _).mono ?_; rintro e w3 ⟨g, c, rfl, hR3, hg3⟩
  have hP : Play w w1.heap.size w3.heap.size b n ((0 : Nat) * 1000000000) dd g c (w3.alloc (.cells #[.int .i64 dd.q, .int .i64 dd.s, .int .i64 dd.p, .int .i64 dd.sp, .slice (some ⟨g, 0, none⟩) n c] 30)) := by
    have gg := hR3.ge
    have z2 := hg2.size
    have z3 := hg3.size
    refine ⟨((hB2.other (O' := OR w1.heap.size w3.heap.size g) ?_).fresh hg3).fresh (alloc1 w3 _), ?_, (hR3.lower (by omega)).fresh (alloc1 w3 _), by simpa using I0, L0, by omega, hg1.size, ((hg1.trans (hg2.mono hg1.size)).trans (hg3.mono (hg1.trans (hg2.mono hg1.size)).size)).alloc (by have := hg1.size; omega) _⟩
    · rintro k (hk | rfl | rfl)
      · exact .inl hk
      · exact .inr (by omega)
      · exact .inr (by omega)
    · rw [L0]; exact heap_alloc_new w3 _
  have hwB := hg1.size
  clear C1 C2 K1 hB2 hR3 hg2 hg3 hg1 I0 L0
  go_upto_region 4 with fail
  generalize w3.alloc (.cells #[.int .i64 dd.q, .int .i64 dd.s, .int .i64 dd.p, .int .i64 dd.sp, .slice (some ⟨g, 0, none⟩) n c] 30) = W at *
  generalize w3.heap.size = bx at *
  generalize w1.heap.size = B at *
  have J0 : PlaysI w B bx b n 100 (.int .i64 0) W := ⟨0, dd, g, c, by omega, rfl, rfl, hP⟩
  replace J0 := Lib.hid J0
  clear hP
  go_wp2_with fail
  go_loopg [10] 100 (fun left t wr => PlaysI w B bx b n left t wr)
  case atStart => exact J0.out
  case round =>
    clear J0
    obtain ⟨k, d, g, c, hk, rfl, rfl, hP⟩ := hrel
    by_cases hlt : k < len ∧ k < 100
    · obtain ⟨l1, l2⟩ := hlt
      have s1 : (k : Int) < len := by omega
      have s2 : (k : Int) < 100 := by omega
      obtain ⟨kb, off, rfl, hkb, e0, e1, e2, e3, c0', c1', c2', c3'⟩ := HC.out k l1
      have c0 := (hP.below.cell hkb).trans c0'
      have c1 := (hP.below.cell hkb).trans c1'
      have c2 := (hP.below.cell hkb).trans c2'
      have c3 := (hP.below.cell hkb).trans c3'
      clear c0' c1' c2' c3'
      obtain ⟨hBk, hOk⟩ := hP.with (.cells #[.int .i64 e0, .int .i64 e1, .int .i64 e2, .int .i64 e3] 34)
      have hPA := hP.fresh (alloc1 wr (.cells #[.int .i64 e0, .int .i64 e1, .int .i64 e2, .int .i64 e3] 34))
      have bd := heap_alloc_new wr (.cells #[.int .i64 e0, .int .i64 e1, .int .i64 e2, .int .i64 e3] 34)
      have hI := hP.inv
      have hl64 := hP.inv.len
      have hln : 0 < d.loc.length := by have := hP.len; omega
      go_upto_region 12 with fail
      generalize wr.alloc (.cells #[.int .i64 e0, .int .i64 e1, .int .i64 e2, .int .i64 e3] 34) = WA at *
      generalize wr.heap.size = kd at *
      obtain ⟨x0, x1, x2, x3, xz⟩ := four bd
      clear c0 c1 c2 c3
      go_upto_block 2 with fail
      go_cut [10] (fun t wc => t = .int .i64 k ∧ PlaysJ w B bx b n k wc)
      case first =>
        by_cases q0 : e0 = 0
        · subst q0
          have P := Lib.hid (set WA b _ d e2 e3 hBk hOk (by omega))
          have hI' : Inv ((k + 1 : Nat) * 1000000000) ((k + 1 : Nat) * 1000000000) (setS d e2 e3) := (hI.set e2 e3 (by omega)).up (by omega) (by omega)
          have hl' : (setS d e2 e3).loc.length = d.loc.length := len_set d e2 e3
          have RF := Lib.hid (fun W2 (hR : RefAt B g c d W2) (hB2 : B ≤ W2.heap.size) => refSet W2 B g c d e2 e3 hR hB2 (by omega))
          have TU := Lib.hid (fun W2 W4 g' c' hs hB2 hR hgg h24 => hPA.turn (W2 := W2) (W4 := W4) (d' := setS d e2 e3) (g' := g') (c' := c') hs hB2 hI' hl' hR hgg h24)
          have MI := Lib.hid (fun W2 hs => hPA.mid (W2 := W2) hs)
          unfold RefIs refB at RF
          unfold Did at P
          clear hP hPA hBk hOk hI hI' hl'
          generalize setS d e2 e3 = d' at *
          generalize setE e2 e3 = code at *
          go_wp2_with fail
          go_at_call 13; refine P.out.mono ?_; rintro e wb ⟨rfl, hBb, hsb⟩
          have bdb := (hsb.block kd (.inr rfl)).trans bd
          obtain ⟨m1, m2, m3, m4⟩ := MI.out _ hsb.without
          have R1 := Lib.hid (RF.out wb m2 m4)
          have HS := Lib.hid hsb.without
          have HB := Lib.hid (hBb.other (O' := OR B bx g) (fun k hk => .inl (.inl hk)))
          clear P RF MI hBb hsb m2 m3 m4 x0 x1 x2 x3 xz bd
          obtain ⟨x0, x1, x2, x3, xz⟩ := four bdb
          obtain ⟨b0, b1, b2, b3, b4, bz⟩ := five m1
          go_wp2_with fail
          go_at_call 14; refine R1.out.mono ?_; rintro e wc ⟨g', c', rfl, hR, hgg, hgc⟩
          have hn := heap_alloc_new wc (.cells #[.int .i64 d'.q, .int .i64 d'.s, .int .i64 d'.p, .int .i64 d'.sp, .slice (some ⟨g', 0, none⟩) d'.loc.length c'] 30)
          have hbx := box_new (o' := .cells #[.int .i64 d'.q, .int .i64 d'.s, .int .i64 d'.p, .int .i64 d'.sp, .slice (some ⟨g', 0, none⟩) d'.loc.length c'] 30) (box_fresh m1 hgc)
          clear b0 b1 b2 b3 b4 bz x0 x1 x2 x3 xz R1
          obtain ⟨b0, b1, b2, b3, b4, bz⟩ := five hbx
          obtain ⟨y0, y1, y2, y3, y4, yz⟩ := five hn
          have F := Lib.hid (TU.out wb _ g' c' HS.out HB.out (hR.fresh (alloc1 wc (.cells #[.int .i64 d'.q, .int .i64 d'.s, .int .i64 d'.p, .int .i64 d'.sp, .slice (some ⟨g', 0, none⟩) d'.loc.length c'] 30))) hgg (hgc.alloc hgc.size (.cells #[.int .i64 d'.q, .int .i64 d'.s, .int .i64 d'.p, .int .i64 d'.sp, .slice (some ⟨g', 0, none⟩) d'.loc.length c'] 30)))
          clear TU HS HB hR hgg hgc m1 bdb hn hbx
          go_wp2_with fail
          go_meet
          case rel => exact ⟨rfl, d', g', c', F.out⟩
        have f0 : (e0 == 0) = false := by simpa using q0
        by_cases q1 : e0 = 1
        · subst q1
          have P := Lib.hid (ensure WA b _ d e1 hBk hOk hI (by omega))
          have hI' : Inv ((k + 1 : Nat) * 1000000000) ((k + 1 : Nat) * 1000000000) (ensS d e1) := (hI.ens e1).up (by omega) (by omega)
          have hl' : (ensS d e1).loc.length = d.loc.length := len_ens d e1
          have RF := Lib.hid (fun W2 (hR : RefAt B g c d W2) (hB2 : B ≤ W2.heap.size) => refEnsure W2 B g c d e1 hR hB2 (by omega) hI (by omega))
          have TU := Lib.hid (fun W2 W4 g' c' hs hB2 hR hgg h24 => hPA.turn (W2 := W2) (W4 := W4) (d' := ensS d e1) (g' := g') (c' := c') hs hB2 hI' hl' hR hgg h24)
          have MI := Lib.hid (fun W2 hs => hPA.mid (W2 := W2) hs)
          unfold RefIs refB at RF
          unfold Did at P
          clear hP hPA hBk hOk hI hI' hl'
          generalize ensS d e1 = d' at *
          generalize ensB d e1 = is at *
          go_wp2_with fail
          go_at_call 15; refine P.out.mono ?_; rintro e wb ⟨rfl, hBb, hsb⟩
          have bdb := (hsb.block kd (.inr rfl)).trans bd
          obtain ⟨m1, m2, m3, m4⟩ := MI.out _ hsb.without
          have R1 := Lib.hid (RF.out wb m2 m4)
          have HS := Lib.hid hsb.without
          have HB := Lib.hid (hBb.other (O' := OR B bx g) (fun k hk => .inl (.inl hk)))
          clear P RF MI hBb hsb m2 m3 m4 x0 x1 x2 x3 xz bd
          obtain ⟨x0, x1, x2, x3, xz⟩ := four bdb
          obtain ⟨b0, b1, b2, b3, b4, bz⟩ := five m1
          go_wp2_with fail
          go_at_call 16; refine R1.out.mono ?_; rintro e wc ⟨g', c', rfl, hR, hgg, hgc⟩
          have hn := heap_alloc_new wc (.cells #[.int .i64 d'.q, .int .i64 d'.s, .int .i64 d'.p, .int .i64 d'.sp, .slice (some ⟨g', 0, none⟩) d'.loc.length c'] 30)
          have hbx := box_new (o' := .cells #[.int .i64 d'.q, .int .i64 d'.s, .int .i64 d'.p, .int .i64 d'.sp, .slice (some ⟨g', 0, none⟩) d'.loc.length c'] 30) (box_fresh m1 hgc)
          clear b0 b1 b2 b3 b4 bz x0 x1 x2 x3 xz R1
          obtain ⟨b0, b1, b2, b3, b4, bz⟩ := five hbx
          obtain ⟨y0, y1, y2, y3, y4, yz⟩ := five hn
          have F := Lib.hid (TU.out wb _ g' c' HS.out HB.out (hR.fresh (alloc1 wc (.cells #[.int .i64 d'.q, .int .i64 d'.s, .int .i64 d'.p, .int .i64 d'.sp, .slice (some ⟨g', 0, none⟩) d'.loc.length c'] 30))) hgg (hgc.alloc hgc.size (.cells #[.int .i64 d'.q, .int .i64 d'.s, .int .i64 d'.p, .int .i64 d'.sp, .slice (some ⟨g', 0, none⟩) d'.loc.length c'] 30)))
          clear TU HS HB hR hgg hgc m1 bdb hn hbx
          go_wp2_with fail
          go_meet
          case rel => exact ⟨rfl, d', g', c', F.out⟩
        have f1 : (e0 == 1) = false := by simpa using q1
        by_cases q2 : e0 = 2
        · subst q2
          have P := Lib.hid (charge WA b _ d e1 e2 hBk hOk hI (by omega) (by omega))
          have hI' : Inv ((k + 1 : Nat) * 1000000000) ((k + 1 : Nat) * 1000000000) (chgS d e1 e2) := by have := hI.chg_any e1 e2; rwa [show ((k + 1 : Nat) : Int) * 1000000000 = k * 1000000000 + 1000000000 by omega]
          have hl' : (chgS d e1 e2).loc.length = d.loc.length := len_chg d e1 e2
          have RF := Lib.hid (fun W2 (hR : RefAt B g c d W2) (hB2 : B ≤ W2.heap.size) => refCharge W2 B g c d e1 e2 hR hB2 (by omega) hI (by omega) (by omega))
          have TU := Lib.hid (fun W2 W4 g' c' hs hB2 hR hgg h24 => hPA.turn (W2 := W2) (W4 := W4) (d' := chgS d e1 e2) (g' := g') (c' := c') hs hB2 hI' hl' hR hgg h24)
          have MI := Lib.hid (fun W2 hs => hPA.mid (W2 := W2) hs)
          unfold RefIs refB at RF
          unfold Did at P
          clear hP hPA hBk hOk hI hI' hl'
          generalize chgS d e1 e2 = d' at *
          generalize chgB d e1 e2 = is at *
          generalize chgE d e1 e2 = code at *
          go_wp2_with fail
          go_at_call 17; refine P.out.mono ?_; rintro e wb ⟨rfl, hBb, hsb⟩
          have bdb := (hsb.block kd (.inr rfl)).trans bd
          obtain ⟨m1, m2, m3, m4⟩ := MI.out _ hsb.without
          have R1 := Lib.hid (RF.out wb m2 m4)
          have HS := Lib.hid hsb.without
          have HB := Lib.hid (hBb.other (O' := OR B bx g) (fun k hk => .inl (.inl hk)))
          clear P RF MI hBb hsb m2 m3 m4 x0 x1 x2 x3 xz bd
          obtain ⟨x0, x1, x2, x3, xz⟩ := four bdb
          obtain ⟨b0, b1, b2, b3, b4, bz⟩ := five m1
          go_wp2_with fail
          go_at_call 18; refine R1.out.mono ?_; rintro e wc ⟨g', c', rfl, hR, hgg, hgc⟩
          have hn := heap_alloc_new wc (.cells #[.int .i64 d'.q, .int .i64 d'.s, .int .i64 d'.p, .int .i64 d'.sp, .slice (some ⟨g', 0, none⟩) d'.loc.length c'] 30)
          have hbx := box_new (o' := .cells #[.int .i64 d'.q, .int .i64 d'.s, .int .i64 d'.p, .int .i64 d'.sp, .slice (some ⟨g', 0, none⟩) d'.loc.length c'] 30) (box_fresh m1 hgc)
          clear b0 b1 b2 b3 b4 bz x0 x1 x2 x3 xz R1
          obtain ⟨b0, b1, b2, b3, b4, bz⟩ := five hbx
          obtain ⟨y0, y1, y2, y3, y4, yz⟩ := five hn
          have F := Lib.hid (TU.out wb _ g' c' HS.out HB.out (hR.fresh (alloc1 wc (.cells #[.int .i64 d'.q, .int .i64 d'.s, .int .i64 d'.p, .int .i64 d'.sp, .slice (some ⟨g', 0, none⟩) d'.loc.length c'] 30))) hgg (hgc.alloc hgc.size (.cells #[.int .i64 d'.q, .int .i64 d'.s, .int .i64 d'.p, .int .i64 d'.sp, .slice (some ⟨g', 0, none⟩) d'.loc.length c'] 30)))
          clear TU HS HB hR hgg hgc m1 bdb hn hbx
          go_wp2_with fail
          go_meet
          case rel => exact ⟨rfl, d', g', c', F.out⟩
        have f2 : (e0 == 2) = false := by simpa using q2
        by_cases q3 : e0 = 3
        · subst q3
          have P := Lib.hid (returns WA b _ d e1 hBk hI)
          have hI' : Inv ((k + 1 : Nat) * 1000000000) ((k + 1 : Nat) * 1000000000) (retS d e1) := (hI.ret e1).up (by omega) (by omega)
          have hl' : (retS d e1).loc.length = d.loc.length := len_ret d e1
          have RF := Lib.hid (fun W2 (hR : RefAt B g c d W2) (hB2 : B ≤ W2.heap.size) => refReturn W2 B g c d e1 hR hB2 (by omega) hI)
          have TU := Lib.hid (fun W2 W4 g' c' hs hB2 hR hgg h24 => hPA.turn (W2 := W2) (W4 := W4) (d' := retS d e1) (g' := g') (c' := c') hs hB2 hI' hl' hR hgg h24)
          have MI := Lib.hid (fun W2 hs => hPA.mid (W2 := W2) hs)
          unfold RefIs refB at RF
          unfold Did at P
          clear hP hPA hBk hOk hI hI' hl'
          generalize retS d e1 = d' at *
          go_wp2_with fail
          go_at_call 19; refine P.out.mono ?_; rintro e wb ⟨rfl, hBb, hsb⟩
          have bdb := (hsb.block kd (.inr rfl)).trans bd
          obtain ⟨m1, m2, m3, m4⟩ := MI.out _ hsb.without
          have R1 := Lib.hid (RF.out wb m2 m4)
          have HS := Lib.hid hsb.without
          have HB := Lib.hid (hBb.other (O' := OR B bx g) (fun k hk => .inl (.inl hk)))
          clear P RF MI hBb hsb m2 m3 m4 x0 x1 x2 x3 xz bd
          obtain ⟨x0, x1, x2, x3, xz⟩ := four bdb
          obtain ⟨b0, b1, b2, b3, b4, bz⟩ := five m1
          go_wp2_with fail
          go_at_call 20; refine R1.out.mono ?_; rintro e wc ⟨g', c', rfl, hR, hgg, hgc⟩
          have hbx := box_fresh m1 hgc
          clear b0 b1 b2 b3 b4 bz x0 x1 x2 x3 xz R1
          obtain ⟨b0, b1, b2, b3, b4, bz⟩ := five hbx
          have F := Lib.hid (TU.out wb _ g' c' HS.out HB.out hR hgg hgc)
          clear TU HS HB hR hgg hgc m1 bdb hbx
          go_wp2_with fail
          go_meet
          case rel => exact ⟨rfl, d', g', c', F.out⟩
        have f3 : (e0 == 3) = false := by simpa using q3
        · skip
          have P := Lib.hid (refill WA b _ d hBk (by omega))
          have hI' : Inv ((k + 1 : Nat) * 1000000000) ((k + 1 : Nat) * 1000000000) (refS d) := (hI.ref (by omega)).up (by omega) (by omega)
          have hl' : (refS d).loc.length = d.loc.length := len_ref d
          have RF := Lib.hid (fun W2 (hR : RefAt B g c d W2) (hB2 : B ≤ W2.heap.size) => refRefill W2 B g c d hR hB2 (by omega))
          have TU := Lib.hid (fun W2 W4 g' c' hs hB2 hR hgg h24 => hPA.turn (W2 := W2) (W4 := W4) (d' := refS d) (g' := g') (c' := c') hs hB2 hI' hl' hR hgg h24)
          have MI := Lib.hid (fun W2 hs => hPA.mid (W2 := W2) hs)
          unfold RefIs refB at RF
          unfold Did at P
          clear hP hPA hBk hOk hI hI' hl'
          generalize refS d = d' at *
          go_wp2_with fail
          go_at_call 21; refine P.out.mono ?_; rintro e wb ⟨rfl, hBb, hsb⟩
          have bdb := (hsb.block kd (.inr rfl)).trans bd
          obtain ⟨m1, m2, m3, m4⟩ := MI.out _ hsb.without
          have R1 := Lib.hid (RF.out wb m2 m4)
          have HS := Lib.hid hsb.without
          have HB := Lib.hid (hBb.other (O' := OR B bx g) (fun k hk => .inl (.inl hk)))
          clear P RF MI hBb hsb m2 m3 m4 x0 x1 x2 x3 xz bd
          obtain ⟨x0, x1, x2, x3, xz⟩ := four bdb
          obtain ⟨b0, b1, b2, b3, b4, bz⟩ := five m1
          go_wp2_with fail
          go_at_call 22; refine R1.out.mono ?_; rintro e wc ⟨g', c', rfl, hR, hgg, hgc⟩
          have hbx := box_fresh m1 hgc
          clear b0 b1 b2 b3 b4 bz x0 x1 x2 x3 xz R1
          obtain ⟨b0, b1, b2, b3, b4, bz⟩ := five hbx
          have F := Lib.hid (TU.out wb _ g' c' HS.out HB.out hR hgg hgc)
          clear TU HS HB hR hgg hgc m1 bdb hbx
          go_wp2_with fail
          go_meet
          case rel => exact ⟨rfl, d', g', c', F.out⟩
      case rest =>
        clear hP hPA hBk hOk bd x0 x1 x2 x3 xz hI hl64
        obtain ⟨rfl, d', g', c', hQ⟩ := hcut
        obtain ⟨b0, b1, b2, b3, b4, bz⟩ := five hQ.box
        have SM := Lib.hid (sames wc b B g' c' _ d' hQ.band hQ.row hQ.inv.len)
        unfold refB at SM
        have NX := Lib.hid (show ∀ w', Below wc.heap.size wc w' → PlaysI w B bx b n (100 - (k + 1)) (.int .i64 ((k : Int) + 1)) w' from fun w' hg => ⟨k + 1, d', g', c', by omega, by omega, by go_num, hQ.fresh hg⟩)
        clear hQ
        go_wp2_with fail
        go_at_call 23; refine SM.out.mono ?_; rintro e w6 ⟨rfl, hg6⟩
        go_wp2_with fail
        go_roundg (100 - (k + 1))
        case measure => omega
        case rel => exact NX.out _ hg6
    · have hd : (¬ (k : Int) < len) ∨ ((k : Int) < len ∧ ¬ (k : Int) < 100) := by omega
      have hF := Lib.hid hP.below
      clear hP hlt
      rcases hd with s1 | ⟨s1, s2⟩
      all_goals
        go_wp2_with fail
        go_ret
        exact ⟨rfl, hF.out⟩
theorem playsLaw (r : Int) (v : Option Addr) (len cap : Nat) (w : World) (hlen : len ≤ 9223372036854775807) (hC : Deeds v len w) :
    Calls Try.prog 3 #[.int .i64 r, .slice v len cap] w (Yes w) := by
  by_cases h : r < 1 ∨ 64 < r
  · exact plays_none r v len cap w h
  · obtain ⟨n, rfl⟩ := Int.eq_ofNat_of_zero_le (show 0 ≤ r by omega)
    exact plays_as n v len cap w (by omega) (by omega) hlen hC
end Go.Proofs.Ytjjcaplkmbigdaa.Quota
