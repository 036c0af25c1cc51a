/- The walk of LedgerPaths. Conditions: each number is one of its kind. -/
import Derived.Test.YtnocgdhepmgncaaLedgerLaws
import Derived.Deep.RegionHeld3
import Derived.BigRegion
namespace Go.Proofs.Ytnocgdhepmgncaa.Ledger
open Go.ChangeShapes Go.WideShapes Go.ChangeAt Go.RowKit Go.Sort Mem
set_option linter.unusedVariables false
set_option linter.unusedSimpArgs false
set_option maxRecDepth 100000

/-- A slice of small numbers that came in. -/
def Small (q : IntKind) (v : Option Addr) (n : Nat) (z : Nat → Int) (w : World) : Prop := ∀ j, j < n → ∃ b off, v = some ⟨b, off, none⟩ ∧ b < w.heap.size ∧ w.cell? ⟨b, off + j, none⟩ = some (.int q (z j))
theorem Small.fresh {q : IntKind} {v : Option Addr} {n : Nat} {z : Nat → Int} {w w' : World} (h : Small q v n z w) (hg : Below w.heap.size w w') : Small q v n z w' := by
  intro j hj
  obtain ⟨b, o, e, hb, hc⟩ := h j hj
  exact ⟨b, o, e, by have := hg.size; omega, (hg.cell (p := ⟨b, _, none⟩) hb).trans hc⟩

/-- Groups 0, 1, 2, each within the one before. -/
structure Pa (s : Bk) (k : Nat) : Prop where
  ok : Ok s
  g0 : s.g 0 = s.tot
  g1 : s.g 1 ≤ s.g 0
  g2 : s.g 2 ≤ s.g 1
  few : s.tot ≤ (k : Int) * 4294967296
theorem Pa.new : Pa Bk.new 0 := ⟨Ok.new, rfl, by simp [Bk.new], by simp [Bk.new], by simp [Bk.new]⟩
theorem Pa.step {s : Bk} {k : Nat} (h : Pa s k) (hk : k < 60) {p : List Int} (hp : p = [0] ∨ p = [0, 1] ∨ p = [0, 1, 2]) {x y : Int} (hx : 0 ≤ x) (hy : 0 ≤ y) (hy2 : y < 4294967296) : code s p x y = 0 ∧ Pa (cre s p x y) (k + 1) := by
  have hgd : good p = true := by rcases hp with rfl | rfl | rfl <;> decide
  have h0 := h.few
  have hw : wrong p x y = false := by
    unfold wrong
    rw [hgd]
    simp
    omega
  have hc : code s p x y = 0 := by
    unfold code
    rw [hw, if_neg (by simp), if_neg (by simp only [top]; omega)]
  refine ⟨hc, ?_⟩
  obtain ⟨ok, g0, g1, g2, few⟩ := h
  have hcre : cre s p x y = add s p x y := by unfold cre; rw [if_pos hc]
  refine ⟨ok.cre p x y, ?_, ?_, ?_, ?_⟩
  all_goals rw [hcre]; unfold add addG
  · rcases hp with rfl | rfl | rfl <;> simp <;> omega
  · rcases hp with rfl | rfl | rfl <;> simp <;> omega
  · rcases hp with rfl | rfl | rfl <;> simp <;> omega
  · simp only; omega
structure PaH (w : World) (lo hi b k : Nat) (s : Bk) (wr : World) : Prop where
  pa : Pa s k
  book : Book wr lo hi b (4 * k) s
  base : w.heap.size ≤ lo
  below : Below w.heap.size w wr
theorem PaH.fresh {w : World} {lo hi b k : Nat} {s : Bk} {wr w' : World} (h : PaH w lo hi b k s wr) (hg : Below wr.heap.size wr w') : PaH w lo hi b k s w' :=
  ⟨h.pa, h.book.fresh hg, h.base, h.below.trans (hg.mono h.below.size)⟩
def PaI (w : World) (lo hi b n m : Nat) (left : Nat) (t : Value) (wr : World) : Prop := ∃ (k : Nat) (s : Bk), k ≤ n ∧ k ≤ m ∧ k ≤ 60 ∧ left = 60 - k ∧ t = .int .i64 (k : Int) ∧ PaH w lo hi b k s wr
/-- What the credit of a round does. -/
theorem PaH.credit {w : World} {lo hi b k n m : Nat} {s : Bk} {wr : World} (h : PaH w lo hi b k s wr) (hk : k < 60) (hn : k < n) (hm : k < m) {p : List Int} (hp : p = [0] ∨ p = [0, 1] ∨ p = [0, 1, 2]) {x y : Int} (hx : 0 ≤ x) (hx2 : x < 256) (hy : 0 ≤ y) (hy2 : y < 4294967296)
    {g : Nat} {e : TypeId} {W : World} (hg : Below wr.heap.size wr W) (hgl : wr.heap.size ≤ g) (hb : W.heap[g]? = some (.cells (cL p).toArray e (0, 0))) {l : Nat} (hl : p.length = l) (W' : World) (hW : Below W.heap.size W W') :
    Calls Try.prog 15 #[.pointer (some ⟨b, 0, none⟩), .slice (some ⟨g, 0, none⟩) l l, .int .i64 x, .int .i64 y] W' (fun e w2 => e = .returned (.int .i64 0) ∧ Below w.heap.size w w2 ∧ PaI w lo hi b n m (60 - (k + 1)) (.int .i64 ((k : Int) + 1)) w2) := by
  have hWW : Below wr.heap.size wr W' := hg.trans (hW.mono hg.size)
  obtain ⟨s1, s2⟩ := h.pa.step hk hp (x := x) (y := y) hx hy hy2
  have hl3 : l ≤ 3 := by rw [← hl]; rcases hp with rfl | rfl | rfl <;> simp
  have hpath : Path (fun k => k < lo ∨ hi ≤ k) W' (some ⟨g, 0, none⟩) l l p := path_new (box_fresh hb hW) hl (by omega) (by rcases hp with rfl | rfl | rfl <;> simp [I64]) (.inr (Nat.le_trans h.book.top hgl)) l
  have hC := Ledger.credit W' lo hi b (4 * k) s _ l l p x y h.pa.ok (h.book.fresh hWW) hpath (by constructor <;> omega) (by constructor <;> omega) (by omega)
  rw [s1] at hC
  refine hC.mono ?_
  rintro e w2 ⟨rfl, hB, hbut⟩
  have hbel : Below w.heap.size w w2 := But.lower (h.fresh hWW).below hbut h.base
  exact ⟨rfl, hbel, k + 1, _, by omega, by omega, by omega, rfl, by simp, s2, hB.mono (by omega), h.base, hbel⟩
set_option maxHeartbeats 4000000 in
theorem pathsLaw (v u : Option Addr) (n m c d : Nat) (z y : Nat → Int) (w : World) (hn : n ≤ 9223372036854775807) (hm : m ≤ 9223372036854775807) (hv : Small .u8 v n z w) (hu : Small .u32 u m y w) (hz : ∀ j, 0 ≤ z j ∧ z j < 256) (hy : ∀ j, 0 ≤ y j ∧ y j < 4294967296) :
    Calls Try.prog 6 #[.slice v n c, .slice u m d] w (Yes w) := by
  have S := Lib.hid (fun w => shown w)
  have N := Lib.hid (fun w => new w)
  have VV := Lib.hid (fun w' (hg : Below w.heap.size w w') => hv.fresh hg)
  have UU := Lib.hid (fun w' (hg : Below w.heap.size w w') => hu.fresh hg)
  have hg := Below.refl w.heap.size w
  clear hv hu
  go_enter Try.func6, Try.ntmps6
  go_wp2_with (first
    | (go_at_call 9; refine (S.out _).mono ?_; rintro e w1 ⟨rfl, hg1⟩; replace hg := fresh_trans hg hg1; clear hg1)
    | (go_at_call 11; refine (N.out _).mono ?_; rintro e w2 ⟨b, rfl, hB, hg2⟩))
  have H0 : Hid (PaI w w1.heap.size w2.heap.size b n m 60 (.int .i64 0) w2) := ⟨0, Bk.new, by omega, by omega, by omega, rfl, rfl, Pa.new, hB, hg.size, hg.trans (hg2.mono hg.size)⟩
  clear S N hB hg hg2
  generalize w1.heap.size = lo at *
  generalize w2.heap.size = hi at *
  go_loopg [7, 8] 60 (fun left t _ wr => PaI w lo hi b n m left t wr)
  case atStart => exact H0.out
  case round =>
    clear H0
    obtain ⟨k, s, hk1, hk2, hk3, rfl, rfl, hH⟩ := hrel
    by_cases hlt : k < n ∧ k < m ∧ k < 60
    · obtain ⟨l1, l2, l3⟩ := hlt
      have q1 : (k : Int) < n := by omega
      have q2 : (k : Int) < m := by omega
      have q3 : (k : Int) < 60 := by omega
      obtain ⟨z0, z1⟩ := hz k
      obtain ⟨y0, y1⟩ := hy k
      obtain ⟨b1, o1, rfl, hb1, x1⟩ := VV.out wr hH.below k l1
      obtain ⟨b2, o2, rfl, hb2, x2⟩ := UU.out wr hH.below k l2
      have CX : Hid (∀ w', Below w.heap.size w w' → w'.cell? ⟨b1, o1 + k, none⟩ = some (.int .u8 (z k)) ∧ w'.cell? ⟨b2, o2 + k, none⟩ = some (.int .u32 (y k))) := fun w' hg => by
        obtain ⟨b1', o1', e1, _, h1⟩ := VV.out w' hg k l1
        obtain ⟨b2', o2', e2, _, h2⟩ := UU.out w' hg k l2
        cases e1
        cases e2
        exact ⟨h1, h2⟩
      have a0 := alloc1 wr (.cells #[.int .i64 0] 3 (0, 0))
      have n0 := heap_alloc_new wr (.cells #[.int .i64 0] 3 (0, 0))
      have e0 : (wr.alloc (.cells #[.int .i64 0] 3 (0, 0))).heap.size = wr.heap.size + 1 := World.size_alloc _ _
      obtain ⟨xA, xA'⟩ := CX.out _ (hH.fresh a0).below
      have CR := Lib.hid (fun (p : List Int) hp g e W hg hgl hb l hl W' hW => hH.credit (p := p) (g := g) (e := e) (W := W) (l := l) l3 l1 l2 hp z0 z1 y0 y1 hg hgl hb hl W' hW)
      clear VV UU hz hy
      generalize hA : wr.alloc (.cells #[.int .i64 0] 3 (0, 0)) = A at *
      have wz : Hid (IntKind.i64.wrap (z k) = z k) := Lib.hid (by rw [IntKind.wrap_i64]; omega)
      have wy : Hid (IntKind.i64.wrap (y k) = y k) := Lib.hid (by rw [IntKind.wrap_i64]; omega)
      by_cases r1 : z k < 64
      · have C1 := Lib.hid (CR.out [0] (.inl rfl) wr.heap.size _ A a0 (Nat.le_refl _) n0 1 rfl)
        clear CR hH n0 a0 e0
        go_upto_region 13 with fail
        go_region_held3 (fun w' => w'.cell? ⟨b1, o1 + k, none⟩ = some (.int .u8 (z k)) ∧ w'.cell? ⟨b2, o2 + k, none⟩ = some (.int .u32 (y k))) (first | exact ⟨xA, xA'⟩ | exact CX.out _ hg2)
          (first
            | (go_at_call 15; rw [wz.out, wy.out]; with_reducible refine (C1.out A.drew (Below.refl _ _).drew).mono ?_; rintro e w2 ⟨rfl, hg2, H2⟩; replace H2 := Lib.hid H2))
        go_wp2_with fail
        go_roundg (60 - (k + 1))
        case measure => omega
        case rel => exact H2.out
      by_cases r2 : z k < 128
      · have r3 : (64 : Int) ≤ z k := by omega
        have aB := alloc1 A (.cells #[.int .i64 0, .int .i64 1] 3 (0, 0))
        have nB := heap_alloc_new A (.cells #[.int .i64 0, .int .i64 1] 3 (0, 0))
        have eB : (A.alloc (.cells #[.int .i64 0, .int .i64 1] 3 (0, 0))).heap.size = A.heap.size + 1 := World.size_alloc _ _
        have gB := fresh_trans a0 aB
        have xB := CX.out _ (hH.fresh gB).below
        generalize hB : A.alloc (.cells #[.int .i64 0, .int .i64 1] 3 (0, 0)) = B at *
        obtain ⟨xC, xD⟩ := xB
        have C1 := Lib.hid (CR.out [0, 1] (.inr (.inl rfl)) A.heap.size _ B gB (by omega) nB 2 rfl)
        clear CR hH n0 a0 e0 nB aB eB gB
        go_upto_region 13 with fail
        go_region_held3 (fun w' => w'.cell? ⟨b1, o1 + k, none⟩ = some (.int .u8 (z k)) ∧ w'.cell? ⟨b2, o2 + k, none⟩ = some (.int .u32 (y k))) (first | exact ⟨xC, xD⟩ | exact CX.out _ hg2)
          (first
            | (go_at_call 15; rw [wz.out, wy.out]; with_reducible refine (C1.out B.drew (Below.refl _ _).drew).mono ?_; rintro e w2 ⟨rfl, hg2, H2⟩; replace H2 := Lib.hid H2))
        go_wp2_with fail
        go_roundg (60 - (k + 1))
        case measure => omega
        case rel => exact H2.out
      · have r3 : (64 : Int) ≤ z k := by omega
        have r4 : (128 : Int) ≤ z k := by omega
        have aB := alloc1 A (.cells #[.int .i64 0, .int .i64 1] 3 (0, 0))
        have nB := heap_alloc_new A (.cells #[.int .i64 0, .int .i64 1] 3 (0, 0))
        have eB : (A.alloc (.cells #[.int .i64 0, .int .i64 1] 3 (0, 0))).heap.size = A.heap.size + 1 := World.size_alloc _ _
        have gB := fresh_trans a0 aB
        have xB := CX.out _ (hH.fresh gB).below
        generalize hB : A.alloc (.cells #[.int .i64 0, .int .i64 1] 3 (0, 0)) = B at *
        have aC := alloc1 B (.cells #[.int .i64 0, .int .i64 1, .int .i64 2] 3 (0, 0))
        have nC := heap_alloc_new B (.cells #[.int .i64 0, .int .i64 1, .int .i64 2] 3 (0, 0))
        have eC : (B.alloc (.cells #[.int .i64 0, .int .i64 1, .int .i64 2] 3 (0, 0))).heap.size = B.heap.size + 1 := World.size_alloc _ _
        have gC := fresh_trans gB aC
        have xC := CX.out _ (hH.fresh gC).below
        generalize hC : B.alloc (.cells #[.int .i64 0, .int .i64 1, .int .i64 2] 3 (0, 0)) = C at *
        obtain ⟨xD, xE⟩ := xB
        obtain ⟨xF, xG⟩ := xC
        have C1 := Lib.hid (CR.out [0, 1, 2] (.inr (.inr rfl)) B.heap.size _ C gC (by omega) nC 3 rfl)
        clear CR hH n0 a0 e0 nB aB eB gB nC aC eC gC
        go_upto_region 13 with fail
        go_region_held3 (fun w' => w'.cell? ⟨b1, o1 + k, none⟩ = some (.int .u8 (z k)) ∧ w'.cell? ⟨b2, o2 + k, none⟩ = some (.int .u32 (y k))) (first | exact ⟨xF, xG⟩ | exact CX.out _ hg2)
          (first
            | (go_at_call 15; rw [wz.out, wy.out]; with_reducible refine (C1.out C.drew (Below.refl _ _).drew).mono ?_; rintro e w2 ⟨rfl, hg2, H2⟩; replace H2 := Lib.hid H2))
        go_wp2_with fail
        go_roundg (60 - (k + 1))
        case measure => omega
        case rel => exact H2.out
    · have hd : ¬ (k : Int) < n ∨ ((k : Int) < n ∧ ¬ (k : Int) < m) ∨ ((k : Int) < n ∧ (k : Int) < m ∧ ¬ (k : Int) < 60) := by omega
      have FT : Hid (∀ w', Below wr.heap.size wr w' → (Calls Try.prog 20 #[.pointer (some ⟨b, 0, none⟩), .int .i64 0] w' (Is (.int .i64 (s.g 0)) w')) ∧ (Calls Try.prog 20 #[.pointer (some ⟨b, 0, none⟩), .int .i64 1] w' (Is (.int .i64 (s.g 1)) w')) ∧ (Calls Try.prog 20 #[.pointer (some ⟨b, 0, none⟩), .int .i64 2] w' (Is (.int .i64 (s.g 2)) w')) ∧ (Calls Try.prog 17 #[.pointer (some ⟨b, 0, none⟩)] w' (Is (.int .i64 (s.g 0)) w')) ∧ Below w.heap.size w w') := fun w' hg => by
        have hB := hH.book.fresh hg
        refine ⟨group w' _ _ b _ _ 0 (by constructor <;> omega) hB, group w' _ _ b _ _ 1 (by constructor <;> omega) hB, group w' _ _ b _ _ 2 (by constructor <;> omega) hB, ?_, (hH.fresh hg).below⟩
        rw [hH.pa.g0]
        exact total w' _ _ b _ _ hB
      have i1 := hH.pa.g1
      have i2 := hH.pa.g2
      have hgr := Below.refl wr.heap.size wr
      clear hH VV UU hz hy hlt
      generalize s.g 0 = g0 at *
      generalize s.g 1 = g1 at *
      generalize s.g 2 = g2 at *
      rcases hd with q1 | ⟨q1, q2⟩ | ⟨q1, q2, q3⟩
      all_goals
        go_wp2_with (first
          | (go_at_call 20; (first | with_reducible refine (FT.out _ hgr).1.mono ?_ | with_reducible refine (FT.out _ hgr).2.1.mono ?_ | with_reducible refine (FT.out _ hgr).2.2.1.mono ?_); rintro e w3 ⟨rfl, hg3⟩; replace hgr := fresh_trans hgr hg3; clear hg3)
          | (go_at_call 17; refine (FT.out _ hgr).2.2.2.1.mono ?_; rintro e w3 ⟨rfl, hg3⟩; replace hgr := fresh_trans hgr hg3; clear hg3))
        go_ret
        exact yes_of rfl (FT.out _ hgr).2.2.2.2
theorem wf_u8 {x : Int} (h : (Lit.int .u8 x).wf = true) : 0 ≤ x ∧ x < 256 := by
  simp [Lit.wf, IntKind.min, IntKind.max, IntKind.signed, IntKind.bits] at h
  omega
theorem wf_u32 {x : Int} (h : (Lit.int .u32 x).wf = true) : 0 ≤ x ∧ x < 4294967296 := by
  simp [Lit.wf, IntKind.min, IntKind.max, IntKind.signed, IntKind.bits] at h
  omega
theorem pathsAt (v u : Option Addr) (n m c d : Nat) (zs ys : List Int) (w : World) (hn : n ≤ 9223372036854775807) (hm : m ≤ 9223372036854775807) (hwz : ∀ x ∈ zs, (Lit.int .u8 x).wf = true) (hwy : ∀ x ∈ ys, (Lit.int .u32 x).wf = true)
    (hv : Small .u8 v n (fun j => zs[j]?.getD 0) w) (hu : Small .u32 u m (fun j => ys[j]?.getD 0) w) : Calls Try.prog 6 #[.slice v n c, .slice u m d] w (Yes w) := by
  refine pathsLaw v u n m c d _ _ w hn hm hv hu (fun j => ?_) (fun j => ?_)
  · show 0 ≤ zs[j]?.getD 0 ∧ zs[j]?.getD 0 < 256
    cases h : zs[j]? with
    | none => simp
    | some x => exact wf_u8 (hwz x (List.mem_of_getElem? h))
  · show 0 ≤ ys[j]?.getD 0 ∧ ys[j]?.getD 0 < 4294967296
    cases h : ys[j]? with
    | none => simp
    | some x => exact wf_u32 (hwy x (List.mem_of_getElem? h))
end Go.Proofs.Ytnocgdhepmgncaa.Ledger
