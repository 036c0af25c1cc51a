/- The walk of PullOrder. Conditions: each argument is a number of its kind; a slice has room for what it holds. -/
import Derived.Test.YtjbhighfajdfhaaPullLaws
import Derived.BigQuiet
namespace Go.Proofs.Ytjbhighfajdfhaa.Pull
open Go.ChangeShapes Go.WideShapes Go.ChangeAt Go.RowKit Load
set_option linter.unusedVariables false
set_option linter.unusedSimpArgs false
attribute [local irreducible] Go.wpQuiet

/-- The other way round. -/
def bk (C : Nat → Cd) (l j : Nat) : Cd := C (l - 1 - j)
theorem key_eq {h : Int} {a b : Cd} (ha : a.Ok) (hb : b.Ok) (e : key h a = key h b) : a.id = b.id := by
  obtain ⟨a0, a1, a2, a3, _⟩ := ha
  obtain ⟨b0, b1, b2, b3, _⟩ := hb
  unfold key at e
  split at e <;> split at e <;> omega
/-- In whatever order they stand, the same one is pulled. -/
theorem cho_back {C : Nat → Cd} {g p : Int} {l : Nat} (hC : ∀ j, j < l → (C j).Ok) (hd : ∀ i, i < l → ∀ j, j < i → ¬ (C i).id = (C j).id) :
    (cho C g p l = -1 ∧ cho (bk C l) g p l = -1) ∨ ∃ q : Nat, q < l ∧ cho C g p l = q ∧ cho (bk C l) g p l = ((l - 1 - q : Nat) : Int) := by
  rcases pick_best (fun j => mayc (C j) g p) (fun j => key (g / 2) (C j)) l with ⟨e, h⟩ | ⟨q, e, hq, hS, hb⟩
  · refine .inl ⟨e, ?_⟩
    rcases cho_end (bk C l) g p l with e2 | ⟨r, _, hr, hm⟩
    · exact e2
    · have this : mayc (C (l - 1 - r)) g p = false := h (l - 1 - r) (by omega)
      exact absurd (this.symm.trans hm) (by decide)
  · refine .inr ⟨q, hq, e, ?_⟩
    refine best_only (pick_best _ _ l) ?_
    refine .inr ⟨l - 1 - q, rfl, by omega, ?_, fun r hr hSr => ?_⟩
    · show mayc (C (l - 1 - (l - 1 - q))) g p = true
      rw [show l - 1 - (l - 1 - q) = q by omega]; exact hS
    · have h1 := hb (l - 1 - r) (by omega) hSr
      show key (g / 2) (C (l - 1 - r)) < key (g / 2) (C (l - 1 - (l - 1 - q))) ∨ (key (g / 2) (C (l - 1 - r)) = key (g / 2) (C (l - 1 - (l - 1 - q))) ∧ l - 1 - q ≤ r)
      rw [show l - 1 - (l - 1 - q) = q by omega]
      rcases h1 with h1 | ⟨h1, h2⟩
      · exact .inl h1
      · refine .inr ⟨h1, ?_⟩
        have hid := key_eq (hC _ (by omega)) (hC _ hq) h1
        by_cases hlt : q < l - 1 - r
        · exact absurd hid (hd _ (by omega) _ hlt)
        · omega

def OrdO (C : Nat → Cd) (n : Nat) (w : World) (left : Nat) (t11 t12 : Value) (wr : World) : Prop :=
  ∃ k : Nat, left + k = n ∧ t12 = .int .i64 ((n : Int) - 1 - k) ∧ wr.ownsRow w.heap.size 35 4 t11 k (cellsC (bk C n) k) ∧ Hid (∀ i, n - k ≤ i → i < n → ∀ j, j < i → ¬ (C i).id = (C j).id) ∧ Below w.heap.size w wr
def OrdI (C : Nat → Cd) (m : Nat) (w0 : World) (left : Nat) (t13 : Value) (wr : World) : Prop :=
  ∃ j : Nat, left + j = m ∧ t13 = .int .i64 j ∧ Hid (∀ i, i < j → ¬ (C m).id = (C i).id) ∧ Below w0.heap.size w0 wr
set_option maxRecDepth 100000 in
set_option maxHeartbeats 4000000 in
theorem orderLaw (v : Option Addr) (n cap : Nat) (C : Nat → Cd) (f t p : Int) (w : World) (hf : U64 f) (ht : U64 t) (hn : n ≤ 9223372036854775807) (h : In v n cap C w) :
    Calls Try.prog 8 #[.slice v n cap, .int .u64 f, .int .u64 t, .int .i64 p] w (Yes w) := by
  have S := Lib.hid (fun w => shown w)
  have hI := Lib.hid h
  have FW := Lib.hid (fun w (h : In v n cap C w) => few' v n cap C w hn h)
  have IL : Hid (∀ w, In v n cap C w → In v (min n 100) cap C w) := Lib.hid fun w h => h.less (by omega)
  have hk : min n 100 ≤ 100 := by omega
  have hln : min n 100 ≤ n := by omega
  generalize min n 100 = l at *
  have CH := Lib.hid (fun w (h : In v l cap C w) => choose' v l cap C f t p w hf ht hk h)
  have CB := Lib.hid (fun ao cp w (hc : Cs ao l (bk C l) w) => chooses ao l cp (bk C l) f t p w hf ht (by omega) (Lib.hid fun j hj => h.nums (l - 1 - j) (by omega)) (Lib.hid hc))
  have PL := Lib.hid (fun hd => cho_back (C := C) (g := gap f t) (p := p) (l := l) (fun j hj => h.nums j (by omega)) hd)
  unfold Two at CH CB
  generalize cho C (gap f t) p l = R1 at *
  generalize cho (bk C l) (gap f t) p l = R2 at *
  have hg := Below.refl w.heap.size w
  obtain ⟨i0, hi, hz0, hz1, hz2⟩ := info_parts infoP
  clear h
  go_enter Try.func8, Try.ntmps8
  go_wp2_with (first
    | (go_at_call 9; refine (S.out _).mono ?_; rintro e w' ⟨rfl, hg1⟩; replace hI := Lib.hid (hI.out.fresh hg1); replace hg := fresh_trans hg hg1; clear hg1)
    | (go_at_call 10; refine (FW.out _ hI.out).mono ?_; rintro e w1 ⟨rfl, hw⟩; replace hw := hw.symm; subst hw; replace hI := Lib.hid (IL.out _ hI.out)))
  clear S FW IL
  go_loopg [11, 12] l (fun left t11 t12 wr => OrdO C l w' left t11 t12 wr)
  case atStart => exact ⟨0, by omega, by simp, World.ownsRow_nil _ _ _ _, Lib.hid (fun i h1 h2 => by omega), Below.refl _ _⟩
  case round =>
    obtain ⟨k, hk', rfl, hown, HD, hb⟩ := hrel
    by_cases hlt : k < l
    · have nk : (l : Int) - 1 - k = ((l - 1 - k : Nat) : Int) := by omega
      obtain ⟨b1, o1, rfl, hb1, x0, x1, x2, x3⟩ := hI.out.lies.fresh hb (l - 1 - k) (by omega)
      have HF : Hid ((∀ i, i < l - 1 - k → ¬ (C (l - 1 - k)).id = (C i).id) → ∀ v2 wx, wx.ownsRow w'.heap.size 35 4 v2 (k + 1) (cellsC (bk C l) k ++ one4 (C (l - 1 - k))) → Below w'.heap.size w' wx → OrdO C l w' (l - (k + 1)) v2 (.int .i64 (((l - 1 - k : Nat) : Int) - 1)) wx) := Lib.hid fun hd v2 wx h g => ⟨k + 1, by omega, by rw [← nk]; go_num, h, Lib.hid (fun i h1 h2 j hj => by rcases (by omega : l - k ≤ i ∨ i = l - 1 - k) with h | rfl; exact HD.out i h h2 j hj; exact hd j hj), g⟩
      have CJ : Hid (∀ j, j < l → wr.cell? ⟨b1, o1 + j * 4, none⟩ = some (.int .i64 (C j).id)) := Lib.hid fun j hj => by
        obtain ⟨b2, o2, e, _, y0, _⟩ := hI.out.lies.fresh hb j hj
        cases e; exact y0
      unfold one4 at HF
      have hl := cellsC_len (bk C l) k
      generalize cellsC (bk C l) k = U at *
      rw [nk]
      have hk5 : k + 1 ≤ 100 := by omega
      have m1 : l - 1 - k < l := by omega
      generalize l - 1 - k = m at *
      have q0 : (0 : Int) ≤ m := by omega
      have q1 : (m : Int) < l := by omega
      have q2 : (m : Int) ≤ 100 := by omega
      have hsz := hb.size
      clear nk CH CB PL hI HD
      go_wp2_with fail
      obtain ⟨w5, hw5⟩ : ∃ w5, w5 = wr := ⟨_, rfl⟩
      subst hw5
      go_loopg [13] m (fun left t13 w3 => OrdI C m w5 left t13 w3)
      case atStart => exact ⟨0, by omega, rfl, Lib.hid (fun i hi => by omega), Below.refl _ _⟩
      case round =>
        obtain ⟨j, hj, rfl, HJ, hbi⟩ := hrel
        have y1 := cell_fresh x0 hbi
        by_cases hjm : j < m
        · have h5 : (j : Int) < m := by omega
          have j0 : (0 : Int) ≤ j := by omega
          have j1 : (j : Int) < l := by omega
          have y0 := cell_fresh (CJ.out j (by omega)) hbi
          have NX : Hid (¬ (C m).id = (C j).id → ∀ wx, Below w5.heap.size w5 wx → OrdI C m w5 (gk - 1) (.int .i64 ((j : Int) + 1)) wx) := Lib.hid fun h wx hw => ⟨j + 1, by omega, by go_num, Lib.hid (fun i hi => by rcases (by omega : i < j ∨ i = j) with h1 | rfl; exact HJ.out i h1; exact h), hw⟩
          by_cases hid : (C m).id = (C j).id
          · go_wp2_with fail
            go_quiet (fail)
            go_wp2_with fail
            go_ret
            exact yes_of rfl (fresh_trans hg (drawn (hb.trans (hbi.mono hb.size)) _))
          · have hid' : ((C m).id == (C j).id) = false := by simp [hid]
            have N1 := Lib.hid (NX.out hid)
            go_wp2_with fail
            go_quiet (fail)
            go_wp2_with fail
            go_roundg (gk - 1)
            case measure => omega
            case rel => exact N1.out _ (drawn hbi _)
        · have h5 : ¬ (j : Int) < m := by omega
          obtain rfl : j = m := by omega
          have N1 := Lib.hid (HF.out HJ.out)
          have hbd := hb.trans (hbi.mono hb.size)
          have hod := owns_fresh hown hbi
          have z0 := cell_fresh x0 hbi
          have z1 := cell_fresh x1 hbi
          have z2 := cell_fresh x2 hbi
          have z3 := cell_fresh x3 hbi
          have hsz3 := hbd.size
          clear HF HJ CJ x0 x1 x2 x3 y1 hown
          generalize C j = ck at *
          obtain ⟨ki, kw, km, kr⟩ := ck
          simp only at z0 z1 z2 z3 N1
          go_wp2_with (at_builtin; refine wpList_append_own _ rfl (.tmp 45) (.tmp 50) 22 rfl w'.heap.size 35 i0 _ 4 32 Try.underlying22 hi hz0 hz1 hz2 rfl (by decide) _ _ _ rfl (hod.alloc _) ⟨wr.heap.size, 0, none⟩ 1 1 [.int .i64 ki, .int .u64 kw, .int .u64 (km : Int), .bool kr] rfl rfl (World.news_of_block (heap_alloc_new wr _)) (by simp [Value.oneCell']) (by simp only [maxLen]; omega) (by omega) (by simp; omega) ?_; intro v' w4 hown4 hgrow4 _; have hb4 := (hbd.alloc hsz3 _).grown hgrow4 (by simp; omega) (fun j hj => (hod.lt j hj).1))
          go_roundg (l - (k + 1))
          case measure => omega
          case rel => exact N1.out _ _ hown4 hb4
    · obtain rfl : k = l := by omega
      have h3 : ¬ (0 : Int) ≤ (k : Int) - 1 - k := by omega
      obtain ⟨ao, cp, rfl, hcs⟩ := own_cs hown
      have HCS := Lib.hid hcs
      have CB1 := Lib.hid (fun w h => CB.out ao cp w h)
      have hgb := fresh_trans hg hb
      replace hI := Lib.hid (hI.out.fresh hb)
      have P := PL.out (fun i hi j hj => HD.out i (by omega) hi j hj)
      clear hown hcs hb hg CB PL HD
      rcases P with ⟨rfl, rfl⟩ | ⟨q, hq, rfl, rfl⟩
      · unfold plc fnd at CH CB1
        simp only at CH CB1
        go_wp2_with (go_at_call 11; first
          | ((with_reducible refine (CH.out _ hI.out).mono ?_); rintro e w2 ⟨rfl, hg1⟩; replace HCS := Lib.hid (HCS.out.fresh hg1); replace hgb := fresh_trans hgb hg1; clear hg1)
          | ((with_reducible refine (CB1.out _ HCS.out).mono ?_); rintro e w3 ⟨rfl, hg2⟩; replace hgb := fresh_trans hgb hg2; clear hg2))
        go_ret
        exact yes_of rfl hgb
      · rw [plc_nat, fnd_nat] at CH CB1
        have e1 : ((k - 1 - q : Nat) : Int) = (k : Int) - 1 - q := by omega
        have e2 : IntKind.i64.wrap ((k : Int) - 1) = (k : Int) - 1 := by rw [IntKind.wrap_i64]; omega
        have e3 : IntKind.i64.wrap ((k : Int) - 1 - ((k : Int) - 1 - q)) = q := by rw [IntKind.wrap_i64]; omega
        rw [e1] at CB1
        go_wp2_with (go_at_call 11; first
          | ((with_reducible refine (CH.out _ hI.out).mono ?_); rintro e w2 ⟨rfl, hg1⟩; replace HCS := Lib.hid (HCS.out.fresh hg1); replace hgb := fresh_trans hgb hg1; clear hg1)
          | ((with_reducible refine (CB1.out _ HCS.out).mono ?_); rintro e w3 ⟨rfl, hg2⟩; replace hgb := fresh_trans hgb hg2; clear hg2))
        go_ret
        exact yes_of (by simp) hgb
end Go.Proofs.Ytjbhighfajdfhaa.Pull
