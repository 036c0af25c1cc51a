/- The law GtreePlays, walked. Conditions: each number is one of its kind. -/
import Derived.Test.YtanahddlnchioaaPlaysR
import Derived.Deep.Cut
import Derived.Deep.DeepCutAuto
import Derived.Deep.CutBlock
namespace Go.Proofs.Ytanahddlnchioaa.Gt
open Go.ChangeShapes Go.WideShapes Go.ChangeAt Go.RowKit Hp
set_option linter.unusedVariables false
set_option linter.unusedSimpArgs false
set_option maxRecDepth 100000

def I64 (n : Int) : Prop := -9223372036854775808 ≤ n ∧ n ≤ 9223372036854775807
/-- Deeds that came in. -/
def Deeds (v : Option Addr) (n : Nat) (w : World) : Prop := ∀ j, j < n → ∃ k off, v = some ⟨k, off, none⟩ ∧ k < w.heap.size ∧ ∃ (d0 d1 d2 : Int) (wl : Bool) (d4 d5 d6 d7 : Int), (I64 d1 ∧ I64 d2) ∧ w.cell? ⟨k, off + j * 8, none⟩ = some (.int .i64 d0) ∧ w.cell? ⟨k, off + j * 8 + 1, none⟩ = some (.int .i64 d1) ∧ w.cell? ⟨k, off + j * 8 + 2, none⟩ = some (.int .i64 d2) ∧ w.cell? ⟨k, off + j * 8 + 3, none⟩ = some (.bool wl) ∧ w.cell? ⟨k, off + j * 8 + 4, none⟩ = some (.int .i64 d4) ∧ w.cell? ⟨k, off + j * 8 + 5, none⟩ = some (.int .i64 d5) ∧ w.cell? ⟨k, off + j * 8 + 6, none⟩ = some (.int .i64 d6) ∧ w.cell? ⟨k, off + j * 8 + 7, none⟩ = some (.int .i64 d7)
theorem eight {w : World} {b : Nat} {a0 a1 a2 a3 a4 a5 a6 a7 : Value} {t : TypeId} (hb : w.heap[b]? = some (.cells #[a0, a1, a2, a3, a4, a5, a6, a7] t (0, 0))) :
    w.cell? ⟨b, 0, none⟩ = some a0 ∧ w.cell? ⟨b, 1, none⟩ = some a1 ∧ w.cell? ⟨b, 2, none⟩ = some a2 ∧ w.cell? ⟨b, 3, none⟩ = some a3 ∧ w.cell? ⟨b, 4, none⟩ = some a4 ∧ w.cell? ⟨b, 5, none⟩ = some a5 ∧ w.cell? ⟨b, 6, none⟩ = some a6 ∧ w.cell? ⟨b, 7, none⟩ = some a7 :=
  ⟨cell_of_row w b 0 _ _ _ hb, cell_of_row w b 1 _ _ _ hb, cell_of_row w b 2 _ _ _ hb, cell_of_row w b 3 _ _ _ hb, cell_of_row w b 4 _ _ _ hb, cell_of_row w b 5 _ _ _ hb, cell_of_row w b 6 _ _ _ hb, cell_of_row w b 7 _ _ _ hb⟩
def PlayI (w : World) (tb b X n : Nat) (left : Nat) (t6 t7 : Value) (wr : World) : Prop :=
  ∃ (k : Nat) (st : St) (T : List (Int × Int)) (vt v1 v2 v3 v4 : Value), vt = t6 ∧ k ≤ n ∧ k ≤ 60 ∧ left = 60 - k ∧ t7 = .int .i64 k ∧ T.length ≤ k + 1 ∧ GR w tb b X X X k st T vt v1 v2 v3 v4 wr
/-- Behind the choice of handles. -/
def CutW (W : World) (D H G : Nat) (dd : Obj) (wc : World) : Prop :=
  ∃ i g a c : Int, Below W.heap.size W wc ∧ wc.heap[D]? = some dd ∧ wc.heap[H]? = some (hanO i g) ∧ wc.heap[G]? = some (hanO a c)
/-- Behind the deed. -/
def CutG (w : World) (tb b X H G k : Nat) (t6 : Value) (wc : World) : Prop :=
  ∃ (st : St) (T : List (Int × Int)) (vt v1 v2 v3 v4 : Value) (i g a c : Int), vt = t6 ∧ T.length ≤ k + 2 ∧ GR w tb b X H G ((k : Int) + 1) st T vt v1 v2 v3 v4 wc ∧ wc.heap[H]? = some (hanO i g) ∧ wc.heap[G]? = some (hanO a c)
theorem two_set {w : World} {b : Nat} {x0 x1 : Int} (h : w.heap[b]? = some (hanO x0 x1)) (y0 y1 : Int) : ((w.setCell ⟨b, 0, none⟩ (.int .i64 y0)).setCell ⟨b, 1, none⟩ (.int .i64 y1)).heap[b]? = some (hanO y0 y1) := by
  have k1 := Arena.set_block (show w.heap[b]? = some (.cells #[.int .i64 x0, .int .i64 x1] 34 (0, 0)) from h) 0 (.int .i64 y0)
  have k2 := Arena.set_block k1 1 (.int .i64 y1)
  simpa [hanO] using k2
theorem two_other {w : World} {b k : Nat} {o : Obj} (h : w.heap[k]? = some o) (hne : k ≠ b) (y0 y1 : Value) : ((w.setCell ⟨b, 0, none⟩ y0).setCell ⟨b, 1, none⟩ y1).heap[k]? = some o :=
  ((Arena.set2_grown w b y0 y1).block k (lt_of h) (by simpa using hne)).trans h
theorem GR.start {w w0 w1 w2 : World} {tb b : Nat} {u1 u2 u3 u4 : Value} (h0 : Below w.heap.size w w0) (h1 : Below w0.heap.size w0 w1) (h2 : Below w1.heap.size w1 w2) (hT : Tre w1 tb b (· < w0.heap.size) st0) (hR : Arena.RefAt w1.heap.size u1 u2 u3 u4 (doc st0) w2) :
    GR w tb b w2.heap.size w2.heap.size w2.heap.size 0 st0 [(0, 0)] (.slice (some ⟨w2.heap.size + 1, 0, none⟩) 1 1) u1 u2 u3 u4 ((w2.alloc (treO 32 u1 u2 u3 u4)).alloc (.cells #[.int .i64 0, .int .i64 0] 34)) := by
  have b1 : Below w.heap.size w w1 := h0.trans (h1.mono h0.size)
  have b2 : Below w.heap.size w w2 := b1.trans (h2.mono b1.size)
  have hV := alloc2 w2 (treO 32 u1 u2 u3 u4) (.cells #[.int .i64 0, .int .i64 0] 34)
  have hs : (w2.alloc (treO 32 u1 u2 u3 u4)).heap.size = w2.heap.size + 1 := by simp
  have hrow := heap_alloc_new (w2.alloc (treO 32 u1 u2 u3 u4)) (.cells #[.int .i64 0, .int .i64 0] 34)
  rw [hs] at hrow
  refine ⟨(hT.other (O' := OS w w2.heap.size w2.heap.size w2.heap.size (.slice (some ⟨w2.heap.size + 1, 0, none⟩) 1 1) u1 u2 u3 u4) fun k hk => ?_).fresh (h2.trans (hV.mono h2.size)), (hR.lower b1.size).fresh hV, heap_fresh (heap_alloc_new w2 _) (alloc1 _ _), Snd.zero, ⟨rfl, .inr ⟨_, 1, _, rfl, by have := b2.size; omega, hrow, by decide, by decide, rfl, rfl⟩⟩, by decide, b2.size, ⟨by simp; omega, by simp; omega⟩, b2.trans (hV.mono b2.size)⟩
  have hz := h2.size
  rcases hk with e | e | e | e | e | ⟨u, hu, e⟩
  · exact .inl (by have := h0.size; omega)
  · exact .inr (by omega)
  · exact .inr (by omega)
  · exact .inr (by omega)
  · have : w2.heap.size + 1 = k := by simpa [Value.ownBlock] using e
    exact .inr (by omega)
  · refine .inr ?_
    simp at hu
    rcases hu with rfl | rfl | rfl | rfl
    · exact (hR.o1.lt k e).1
    · exact (hR.o2.lt k e).1
    · exact (hR.o3.lt k e).1
    · exact (hR.o4.lt k e).1
set_option maxHeartbeats 3000000 in
theorem playsLaw (v : Option Addr) (n cap : Nat) (w : World) (hn : n ≤ 9223372036854775807) (hc : Deeds v n w) :
    Calls Try.prog 3 #[.slice v n cap] w (Yes w) := by
  have HC := Lib.hid hc
  clear hc
  have A := Lib.hid (awake w)
  go_enter Try.func3, Try.ntmps3
  go_upto_region 7 with (first
    | (go_at_call 4; refine (A.out).mono ?_; rintro e w0 ⟨rfl, hg0⟩)
    | (go_at_call 5; refine (new_tree w0).mono ?_; rintro e w1 ⟨tb, b, rfl, hT, hg1⟩)
    | (go_at_call 6; refine (docNew w1).mono ?_; rintro e w2 ⟨u1, u2, u3, u4, rfl, hR, hg2⟩; obtain ⟨s1, c1, e1⟩ := Arena.owns_shape hR.o1; obtain ⟨s2, c2, e2⟩ := Arena.owns_shape hR.o2; obtain ⟨s3, c3, e3⟩ := Arena.owns_shape hR.o3; obtain ⟨s4, c4, e4⟩ := Arena.owns_shape hR.o4; subst e1 e2 e3 e4))
  have J0 : Hid (PlayI w tb b w2.heap.size n 60 (.slice (some ⟨w2.heap.size + 1, 0, none⟩) 1 1) (.int .i64 0) ((w2.alloc (treO 32 (.slice s1 (doc st0).pl.length c1) (.slice s2 (doc st0).pl.length c2) (.slice s3 (doc st0).pl.length c3) (.slice s4 (doc st0).fr.length c4))).alloc (.cells #[.int .i64 0, .int .i64 0] 34))) :=
    Lib.hid ⟨0, st0, [(0, 0)], _, _, _, _, _, rfl, by omega, by omega, rfl, rfl, by simp, GR.start hg0 hg1 hg2 hT hR⟩
  unfold treO at J0
  clear A hg0 hg1 hg2 hT hR
  go_wp2_with fail
  generalize (w2.alloc _).alloc _ = W0 at *
  generalize w2.heap.size = X at *
  go_loopg [6, 7] 60 (fun left t6 t7 wr => PlayI w tb b X n left t6 t7 wr)
  case atStart => exact J0.out
  case round =>
    clear J0
    obtain ⟨k, st, T, vt, v1, v2, v3, v4, rfl, hk, hk5, rfl, rfl, hTl, hR⟩ := hrel
    by_cases hlt : k < n ∧ k < 60
    · obtain ⟨l1, l2⟩ := hlt
      have s1 : (k : Int) < n := by omega
      have s2 : (k : Int) < 60 := by omega
      obtain ⟨kb, off, rfl, hkb, d0, d1, d2, wl, d4, d5, d6, d7, ⟨g1, g2⟩, c0', c1', c2', c3', c4', c5', c6', c7'⟩ := HC.out k l1
      have c0 := (hR.s.cell (p := ⟨kb, _, none⟩) hkb).trans c0'
      have c1 := (hR.s.cell (p := ⟨kb, _, none⟩) hkb).trans c1'
      have c2 := (hR.s.cell (p := ⟨kb, _, none⟩) hkb).trans c2'
      have c3 := (hR.s.cell (p := ⟨kb, _, none⟩) hkb).trans c3'
      have c4 := (hR.s.cell (p := ⟨kb, _, none⟩) hkb).trans c4'
      have c5 := (hR.s.cell (p := ⟨kb, _, none⟩) hkb).trans c5'
      have c6 := (hR.s.cell (p := ⟨kb, _, none⟩) hkb).trans c6'
      have c7 := (hR.s.cell (p := ⟨kb, _, none⟩) hkb).trans c7'
      clear c0' c1' c2' c3' c4' c5' c6' c7'
      have hD := heap_alloc_new wr (.cells #[.int .i64 d0, .int .i64 d1, .int .i64 d2, .bool wl, .int .i64 d4, .int .i64 d5, .int .i64 d6, .int .i64 d7] 37)
      have hbW := alloc1 wr (.cells #[.int .i64 d0, .int .i64 d1, .int .i64 d2, .bool wl, .int .i64 d4, .int .i64 d5, .int .i64 d6, .int .i64 d7] 37)
      have WA := Lib.hid (fun W' (hg : Below wr.heap.size wr W') => whichs W' w.heap.size vt T d1 (Arena.owns_fresh hR.row hg) hR.pos (by omega) g1)
      have WB := Lib.hid (fun W' (hg : Below wr.heap.size wr W') => whichs W' w.heap.size vt T d2 (Arena.owns_fresh hR.row hg) hR.pos (by omega) g2)
      have GRH := Lib.hid hR
      obtain ⟨p6, q6, e6⟩ := Arena.owns_shape hR.row
      subst e6
      clear hR g1 g2
      go_upto_region 11 with fail
      generalize wr.alloc (.cells #[.int .i64 d0, .int .i64 d1, .int .i64 d2, .bool wl, .int .i64 d4, .int .i64 d5, .int .i64 d6, .int .i64 d7] 37) = W at *
      have hDl : wr.heap.size < W.heap.size := lt_of hD
      generalize hDD : wr.heap.size = D at *
      replace hDD := Lib.hid hDD
      obtain ⟨z0, z1, z2, z3, z4, z5, z6, z7⟩ := eight hD
      clear c0 c1 c2 c3 c4 c5 c6 c7
      go_upto_region 12 with (go_at_call 7; refine (WA.out _ hbW).mono ?_; rintro e wa ⟨h1, h2, rfl, hga⟩)
      have hba := hbW.trans (hga.mono (Nat.le_of_lt hDl))
      have hH := heap_alloc_new wa (.cells #[.int .i64 h1, .int .i64 h2] 34)
      have hHl : D < wa.heap.size := Nat.lt_of_lt_of_le hDl hga.size
      have hD1 := heap_fresh (heap_fresh hD hga) (alloc1 wa (.cells #[.int .i64 h1, .int .i64 h2] 34))
      have hbH := hba.alloc (Nat.le_of_lt hHl) (.cells #[.int .i64 h1, .int .i64 h2] 34)
      have hHs : (wa.alloc (.cells #[.int .i64 h1, .int .i64 h2] 34)).heap.size = wa.heap.size + 1 := by simp
      generalize wa.alloc (.cells #[.int .i64 h1, .int .i64 h2] 34) = Wa at *
      generalize wa.heap.size = H at *
      clear z0 z1 z2 z3 z4 z5 z6 z7 hD hba hga WA
      obtain ⟨z0, z1, z2, z3, z4, z5, z6, z7⟩ := eight hD1
      replace hHs := Lib.hid hHs
      go_upto_region 13 with (go_at_call 7; refine (WB.out _ hbH).mono ?_; rintro e wb ⟨i1, i2, rfl, hgb⟩)
      have hGl : H < wb.heap.size := by have := hHs.out; have := hgb.size; omega
      have hbb := hbH.trans (hgb.mono (by have := hHs.out; omega))
      have hG := heap_alloc_new wb (.cells #[.int .i64 i1, .int .i64 i2] 34)
      have hD2 := heap_fresh (heap_fresh hD1 hgb) (alloc1 wb (.cells #[.int .i64 i1, .int .i64 i2] 34))
      have hH2 := heap_fresh (heap_fresh hH hgb) (alloc1 wb (.cells #[.int .i64 i1, .int .i64 i2] 34))
      have hbG := hbb.alloc (by omega) (.cells #[.int .i64 i1, .int .i64 i2] 34)
      generalize wb.alloc (.cells #[.int .i64 i1, .int .i64 i2] 34) = Wb at *
      generalize wb.heap.size = G at *
      clear z0 z1 z2 z3 z4 z5 z6 z7 hD1 hH hbb hbH hgb WB hHs hbW
      obtain ⟨z0, z1, z2, z3, z4, z5, z6, z7⟩ := eight hD2
      go_upto_if 54 with fail
      go_cut [7] (fun t wc => t = .int .i64 k ∧ CutW wr D H G (.cells #[.int .i64 d0, .int .i64 d1, .int .i64 d2, .bool wl, .int .i64 d4, .int .i64 d5, .int .i64 d6, .int .i64 d7] 37 (0, 0)) wc)
      case first =>
        obtain ⟨y0, y1, yz⟩ := Arena.pair hH2
        obtain ⟨x0, x1, xz⟩ := Arena.pair hG
        have n1 : D ≠ H := by omega
        have n2 : D ≠ G := by omega
        have n3 : H ≠ G := by omega
        have n4 : G ≠ H := by omega
        cases wl
        · have F0 : Hid (CutW wr D H G (.cells #[.int .i64 d0, .int .i64 d1, .int .i64 d2, .bool false, .int .i64 d4, .int .i64 d5, .int .i64 d6, .int .i64 d7] 37 (0, 0)) Wb) := Lib.hid ⟨_, _, _, _, by rw [hDD.out]; exact hbG, hD2, hH2, hG⟩
          clear hD2 hH2 hG hbG
          go_wp2_with fail
          go_meet
          case rel => exact ⟨rfl, F0.out⟩
        · have F0 : Hid (∀ W', W' = (((Wb.setCell ⟨H, 0, none⟩ (.int .i64 d4)).setCell ⟨H, 1, none⟩ (.int .i64 d5)).setCell ⟨G, 0, none⟩ (.int .i64 d6)).setCell ⟨G, 1, none⟩ (.int .i64 d7) → CutW wr D H G (.cells #[.int .i64 d0, .int .i64 d1, .int .i64 d2, .bool true, .int .i64 d4, .int .i64 d5, .int .i64 d6, .int .i64 d7] 37 (0, 0)) W') := Lib.hid fun W' e => by
            subst e
            refine ⟨d4, d5, d6, d7, ?_, two_other (two_other hD2 n1 _ _) n2 _ _, two_other (two_set (show Wb.heap[H]? = some (hanO h1 h2) from hH2) d4 d5) n3 _ _, two_set (x0 := i1) (x1 := i2) (two_other (show Wb.heap[G]? = some (hanO i1 i2) from hG) n4 _ _) d6 d7⟩
            rw [hDD.out]
            exact below_two (below_two hbG (by omega) _ _) (by omega) _ _
          clear hD2 hH2 hG hbG
          go_wp2_with fail
          go_meet
          case rel => exact ⟨rfl, F0.out _ rfl⟩
      case rest =>
        obtain ⟨rfl, i, g, a, c, hbc, hDc, hHc, hGc⟩ := hcut
        have hlt : D < H ∧ H < G := ⟨hHl, hGl⟩
        clear z0 z1 z2 z3 z4 z5 z6 z7 hD2 hH2 hG hbG
        have hR := GRH.out.move hbc (H := H) (G := G) ⟨by have := hDD.out; omega, lt_of hHc⟩ ⟨by have := hDD.out; omega, lt_of hGc⟩
        have hvt : ∀ kk, (Value.slice p6 T.length q6).ownBlock = some kk → kk < H ∧ kk < G := fun kk hk => by
          have := (GRH.out.row.lt kk hk).2
          have := hDD.out
          omega
        replace hvt := Lib.hid hvt
        have hXl : X < H ∧ X < G := by
          have := lt_of GRH.out.box
          have := hDD.out
          omega
        clear GRH hbc hDD
        obtain ⟨z0, z1, z2, z3, z4, z5, z6, z7⟩ := eight hDc
        clear hDc z1 z2 z3 z4 z5 z6 z7
        go_upto_block 2 with fail
        obtain ⟨y0, y1, yz⟩ := Arena.pair hHc
        obtain ⟨x0, x1, xz⟩ := Arena.pair hGc
        have HK := Lib.hid hHc
        have GK := Lib.hid hGc
        clear hHc hGc
        have kz : (0 : Int) ≤ (k : Int) := by omega
        have neX : H ≠ X ∧ G ≠ X := by omega
        obtain ⟨nHX, nGX⟩ := neX
        go_cut [6] (fun t wc => CutG w tb b X H G k t wc)
        case first =>
          by_cases q0 : d0 = 0
          · subst q0
            have P := Lib.hid (createX wc tb b _ k st i g hR.tr hR.snd.inv hR.snd.ok hR.os)
            have MI := Lib.hid (fun w3 ht hs => hR.mid (N' := (k : Int) + 1) ((hR.snd.cre kz i g).mono (by omega)) (w3 := w3) ht hs)
            have DOC := Lib.hid (fun w3 (h3 : Arena.RefAt w.heap.size v1 v2 v3 v4 (doc st) w3) (hB : w.heap.size ≤ w3.heap.size) => refCreateX (w := w3) i g h3 hB hR.snd)
            unfold Did at P
            have hR' := Lib.hid hR
            generalize (creR st i g).st = st' at *
            generalize (creR st i g).i = pi at *
            generalize (creR st i g).g = pg at *
            generalize (creR st i g).n = pn at *
            obtain ⟨e1, c1, h1⟩ := Arena.owns_shape hR.dc.o1
            obtain ⟨e2, c2, h2⟩ := Arena.owns_shape hR.dc.o2
            obtain ⟨e3, c3, h3⟩ := Arena.owns_shape hR.dc.o3
            obtain ⟨e4, c4, h4⟩ := Arena.owns_shape hR.dc.o4
            subst h1 h2 h3 h4
            clear hR
            go_wp2_with fail
            go_at_call 8; refine P.out.mono ?_; rintro e w3 ⟨rfl, ht3, hs3⟩
            obtain ⟨m1, m2, m3, m4, m5, RC⟩ := MI.out w3 ht3 hs3
            have hA3 := alloc1 w3 (.cells #[.int .i64 pi, .int .i64 pg] 34)
            have DC := Lib.hid (DOC.out _ (m4.fresh hA3) (Nat.le_trans m5 hA3.size))
            have t11 := heap_alloc_new w3 (.cells #[.int .i64 pi, .int .i64 pg] 34)
            have m1' := heap_fresh m1 hA3
            have m2' := heap_fresh (m2.trans HK.out) hA3
            have m3' := heap_fresh (m3.trans GK.out) hA3
            have sz3 : w3.heap.size < (w3.alloc (.cells #[.int .i64 pi, .int .i64 pg] 34)).heap.size := by simp
            have hX3 := lt_of m1
            clear P MI DOC HK GK m1 m2 m3 m4 m5 ht3 hs3 x0 x1 xz y0 y1 yz z0
            obtain ⟨b0, b1, b2, b3, b4, bz⟩ := Arena.five m1'
            obtain ⟨y0, y1, yz⟩ := Arena.pair m2'
            go_wp2_with fail
            generalize w3.alloc (.cells #[.int .i64 pi, .int .i64 pg] 34) = W3 at *
            go_at_call 9; refine DC.out.mono ?_; rintro e w4 ⟨u1, u2, u3, u4, rfl, hR4, hN4, hg4⟩
            obtain ⟨f1, r1, j1⟩ := Arena.owns_shape hR4.o1
            obtain ⟨f2, r2, j2⟩ := Arena.owns_shape hR4.o2
            obtain ⟨f3, r3, j3⟩ := Arena.owns_shape hR4.o3
            obtain ⟨f4, r4, j4⟩ := Arena.owns_shape hR4.o4
            subst j1 j2 j3 j4
            have hV := alloc2 w4 (.cells #[.int .i64 32, .slice f1 (doc st').pl.length r1, .slice f2 (doc st').pl.length r2, .slice f3 (doc st').pl.length r3, .slice f4 (doc st').fr.length r4] 31) (.cells #[.int .i64 pi, .int .i64 pg] 34)
            obtain ⟨vX, vR⟩ := RC.out w4 _ _ _ _ _ hR4 (hN4.mono hA3.size) (hA3.trans (hg4.mono hA3.size)) hV
            have t13 := heap_fresh (heap_alloc_new w4 (.cells #[.int .i64 32, .slice f1 (doc st').pl.length r1, .slice f2 (doc st').pl.length r2, .slice f3 (doc st').pl.length r3, .slice f4 (doc st').fr.length r4] 31)) (alloc1 (w4.alloc (.cells #[.int .i64 32, .slice f1 (doc st').pl.length r1, .slice f2 (doc st').pl.length r2, .slice f3 (doc st').pl.length r3, .slice f4 (doc st').fr.length r4] 31)) (.cells #[.int .i64 pi, .int .i64 pg] 34))
            have t14 := heap_alloc_new (w4.alloc (.cells #[.int .i64 32, .slice f1 (doc st').pl.length r1, .slice f2 (doc st').pl.length r2, .slice f3 (doc st').pl.length r3, .slice f4 (doc st').fr.length r4] 31)) (.cells #[.int .i64 pi, .int .i64 pg] 34)
            rw [show (w4.alloc (.cells #[.int .i64 32, .slice f1 (doc st').pl.length r1, .slice f2 (doc st').pl.length r2, .slice f3 (doc st').pl.length r3, .slice f4 (doc st').fr.length r4] 31)).heap.size = w4.heap.size + 1 by simp] at t14
            have t11' := heap_fresh (heap_fresh t11 hg4) hV
            have hHV := heap_fresh (heap_fresh m2' hg4) hV
            have hGV := heap_fresh (heap_fresh m3' hg4) hV
            have nX1 : w3.heap.size ≠ X := by omega
            have nX2 : w4.heap.size ≠ X := by have := hg4.size; omega
            have nX3 : w4.heap.size + 1 ≠ X := by have := hg4.size; omega
            have hHP := Lib.hid ((put5_other _ (lt_of hHV) nHX (.int .i64 32) (.slice f1 (doc st').pl.length r1) (.slice f2 (doc st').pl.length r2) (.slice f3 (doc st').pl.length r3) (.slice f4 (doc st').fr.length r4)).trans hHV)
            have hGP := Lib.hid ((put5_other _ (lt_of hGV) nGX (.int .i64 32) (.slice f1 (doc st').pl.length r1) (.slice f2 (doc st').pl.length r2) (.slice f3 (doc st').pl.length r3) (.slice f4 (doc st').fr.length r4)).trans hGV)
            have t11P := Lib.hid ((put5_other _ (lt_of t11') nX1 (.int .i64 32) (.slice f1 (doc st').pl.length r1) (.slice f2 (doc st').pl.length r2) (.slice f3 (doc st').pl.length r3) (.slice f4 (doc st').fr.length r4)).trans t11')
            have hRP := Lib.hid vR
            clear RC DC hA3 b0 b1 b2 b3 b4 bz y0 y1 yz m1' m2' m3' hV hHV hGV hR4 hN4 hg4 t11 sz3 hX3 vR hR'
            generalize (doc st').pl.length = mn at *
            generalize (doc st').fr.length = mf at *
            go_upto_region 25 with fail
            generalize (w4.alloc _).alloc _ = V at *
            generalize w4.heap.size = z4 at *
            generalize w3.heap.size = z3 at *
            obtain ⟨b0, b1, b2, b3, b4, bz⟩ := Arena.five vX
            obtain ⟨k0, k1, k2, k3, k4, kz'⟩ := Arena.five t13
            obtain ⟨l0, l1', lz⟩ := Arena.pair t11'
            obtain ⟨o0, o1, oz⟩ := Arena.pair t14
            clear vX t13 t11' t14
            unfold put5 at hHP hGP hRP t11P
            by_cases hpn : pn = 0
            · subst hpn
              obtain ⟨i0, hi, hz0, hz1, hz2⟩ := info_parts infoH
              go_upto_region 29 with fail
              generalize ((((V.setCell ⟨X, 0, none⟩ (.int .i64 32)).setCell ⟨X, 1, none⟩ (.slice f1 mn r1)).setCell ⟨X, 2, none⟩ (.slice f2 mn r2)).setCell ⟨X, 3, none⟩ (.slice f3 mn r3)).setCell ⟨X, 4, none⟩ (.slice f4 mf r4) = WP at *
              clear b0 b1 b2 b3 b4 bz k0 k1 k2 k3 k4 kz' l0 l1' lz o0 o1 oz
              obtain ⟨l0, l1', lz⟩ := Arena.pair t11P.out
              obtain ⟨g0, q0', he, _⟩ := hRP.out.row.form (hRP.out.pos)
              cases he
              have hown := Lib.hid hRP.out.row
              have hbs := hRP.out.s.size
              have F0 : Hid (∀ g5 c5 w5, w5.ownsRow w.heap.size 34 2 (.slice (some ⟨g5, 0, none⟩) (T.length + 1) c5) (T.length + 1) (cellsH T ++ [.int .i64 pi, .int .i64 pg]) → (WP.alloc (.cells #[.int .i64 pi, .int .i64 pg] 34)).grownBy w5 (some g0) → (g5 = g0 ∨ g5 = WP.heap.size + 1) → CutG w tb b X H G k (.slice (some ⟨g5, 0, none⟩) (T.length + 1) c5) w5) := Lib.hid fun g5 c5 w5 own5 grow5 at5 => by
                have hs1 : (WP.alloc (.cells #[.int .i64 pi, .int .i64 pg] 34)).heap.size = WP.heap.size + 1 := by simp
                have nH := hvt.out g0 rfl
                have lH := lt_of hHP.out
                have lG := lt_of hGP.out
                refine ⟨st', T ++ [(pi, pg)], _, _, _, _, _, i, g, a, c, rfl, by simp; omega, hRP.out.told (p := (pi, pg)) rfl (alloc1 WP _) grow5 (by rw [hs1]; exact at5) own5, ?_, ?_⟩
                · exact (grow5.block H (by omega) (by simp; omega)).trans (heap_fresh hHP.out (alloc1 WP _))
                · exact (grow5.block G (by omega) (by simp; omega)).trans (heap_fresh hGP.out (alloc1 WP _))
              clear hHP hGP hRP t11P
              go_wp2_with (at_builtin; refine wpList_append_lies _ rfl (.tmp 102) (.tmp 104) 35 rfl w.heap.size 34 i0 _ 2 16 Try.underlying35 hi hz0 hz1 hz2 rfl (by decide) (.slice (some ⟨g0, 0, none⟩) T.length q6) T.length (cellsH T) rfl (hown.out.alloc _) ⟨WP.heap.size, 0, none⟩ 1 1 [.int .i64 pi, .int .i64 pg] rfl rfl (World.news_of_block (heap_alloc_new WP _)) (by simp [Value.oneCell']) (by decide) (by simp only [maxLen]; omega) (by omega) (by (try simp); omega) (WP.heap.size + 1) (by simp) ?_; intro g5 c5 w5 own5 grow5 at5 lt5)
              have F1 := Lib.hid (F0.out g5 c5 w5 own5 grow5 (by simpa [Value.ownBlock, eq_comm] using at5))
              clear F0 own5 grow5 at5 lt5 hown
              go_wp2_with fail
              go_meet
              case rel => exact F1.out
            · have hpn' : (pn == 0) = false := by simpa using hpn
              clear hpn
              have F0 : Hid (CutG w tb b X H G k (.slice p6 T.length q6) (((((V.setCell ⟨X, 0, none⟩ (.int .i64 32)).setCell ⟨X, 1, none⟩ (.slice f1 mn r1)).setCell ⟨X, 2, none⟩ (.slice f2 mn r2)).setCell ⟨X, 3, none⟩ (.slice f3 mn r3)).setCell ⟨X, 4, none⟩ (.slice f4 mf r4))) := Lib.hid ⟨st', T, _, _, _, _, _, i, g, a, c, rfl, by omega, hRP.out, hHP.out, hGP.out⟩
              clear hHP hGP hRP
              go_wp2_with fail
              go_meet
              case rel => exact F0.out
          · have f0 : (d0 == 0) = false := by simpa using q0
            by_cases q1 : d0 = 1
            · subst q1
              clear q0
              have P := Lib.hid (destroyX wc tb b _ k (by omega) st i g hR.tr hR.snd.inv hR.snd.ok hR.os)
              have MI := Lib.hid (fun w3 ht hs => hR.mid (N' := (k : Int) + 1) (hR.snd.des kz i g) (w3 := w3) ht hs)
              have DOC := Lib.hid (fun w3 (h3 : Arena.RefAt w.heap.size v1 v2 v3 v4 (doc st) w3) (hB : w.heap.size ≤ w3.heap.size) => refDestroyX (w := w3) (by omega) i g h3 hB hR.snd)
              unfold Did at P
              generalize desS st i g = st' at *
              generalize desN st i g = pn at *
              obtain ⟨e1, c1, h1⟩ := Arena.owns_shape hR.dc.o1
              obtain ⟨e2, c2, h2⟩ := Arena.owns_shape hR.dc.o2
              obtain ⟨e3, c3, h3⟩ := Arena.owns_shape hR.dc.o3
              obtain ⟨e4, c4, h4⟩ := Arena.owns_shape hR.dc.o4
              subst h1 h2 h3 h4
              clear hR
              go_wp2_with fail
              go_at_call 10; refine P.out.mono ?_; rintro e w3 ⟨rfl, ht3, hs3⟩
              obtain ⟨m1, m2, m3, m4, m5, RC⟩ := MI.out w3 ht3 hs3
              have DC := Lib.hid (DOC.out _ m4 m5)
              have m2' := m2.trans HK.out
              have m3' := m3.trans GK.out
              have hX3 := lt_of m1
              clear P MI DOC HK GK m2 m3 m4 m5 ht3 hs3 x0 x1 xz y0 y1 yz z0
              obtain ⟨b0, b1, b2, b3, b4, bz⟩ := Arena.five m1
              obtain ⟨y0, y1, yz⟩ := Arena.pair m2'
              obtain ⟨x0, x1, xz⟩ := Arena.pair m3'
              go_wp2_with fail
              go_at_call 11; refine DC.out.mono ?_; rintro e w4 ⟨u1, u2, u3, u4, rfl, hR4, hN4, hg4⟩
              obtain ⟨f1, r1, j1⟩ := Arena.owns_shape hR4.o1
              obtain ⟨f2, r2, j2⟩ := Arena.owns_shape hR4.o2
              obtain ⟨f3, r3, j3⟩ := Arena.owns_shape hR4.o3
              obtain ⟨f4, r4, j4⟩ := Arena.owns_shape hR4.o4
              subst j1 j2 j3 j4
              have hV := alloc1 w4 (.cells #[.int .i64 32, .slice f1 (doc st').pl.length r1, .slice f2 (doc st').pl.length r2, .slice f3 (doc st').pl.length r3, .slice f4 (doc st').fr.length r4] 31)
              obtain ⟨vX, vR⟩ := RC.out w4 _ _ _ _ _ hR4 hN4 hg4 hV
              have t13 := heap_alloc_new w4 (.cells #[.int .i64 32, .slice f1 (doc st').pl.length r1, .slice f2 (doc st').pl.length r2, .slice f3 (doc st').pl.length r3, .slice f4 (doc st').fr.length r4] 31)
              have hHV := heap_fresh (heap_fresh m2' hg4) hV
              have hGV := heap_fresh (heap_fresh m3' hg4) hV
              have nX2 : w4.heap.size ≠ X := by have := hg4.size; omega
              have hHP := Lib.hid ((put5_other _ (lt_of hHV) nHX (.int .i64 32) (.slice f1 (doc st').pl.length r1) (.slice f2 (doc st').pl.length r2) (.slice f3 (doc st').pl.length r3) (.slice f4 (doc st').fr.length r4)).trans hHV)
              have hGP := Lib.hid ((put5_other _ (lt_of hGV) nGX (.int .i64 32) (.slice f1 (doc st').pl.length r1) (.slice f2 (doc st').pl.length r2) (.slice f3 (doc st').pl.length r3) (.slice f4 (doc st').fr.length r4)).trans hGV)
              have hRP := Lib.hid vR
              clear RC DC b0 b1 b2 b3 b4 bz y0 y1 yz x0 x1 xz m1 m2' m3' hV hHV hGV hR4 hN4 hg4 hX3 vR
              generalize (doc st').pl.length = mn at *
              generalize (doc st').fr.length = mf at *
              go_upto_region 33 with fail
              generalize w4.alloc _ = V at *
              generalize w4.heap.size = z4 at *
              obtain ⟨b0, b1, b2, b3, b4, bz⟩ := Arena.five vX
              obtain ⟨k0, k1, k2, k3, k4, kz'⟩ := Arena.five t13
              clear vX t13
              unfold put5 at hHP hGP hRP
              have F0 : Hid (CutG w tb b X H G k (.slice p6 T.length q6) (((((V.setCell ⟨X, 0, none⟩ (.int .i64 32)).setCell ⟨X, 1, none⟩ (.slice f1 mn r1)).setCell ⟨X, 2, none⟩ (.slice f2 mn r2)).setCell ⟨X, 3, none⟩ (.slice f3 mn r3)).setCell ⟨X, 4, none⟩ (.slice f4 mf r4))) := Lib.hid ⟨st', T, _, _, _, _, _, i, g, a, c, rfl, by omega, hRP.out, hHP.out, hGP.out⟩
              clear hHP hGP hRP
              go_wp2_with fail
              go_meet
              case rel => exact F0.out
            · have f1' : (d0 == 1) = false := by simpa using q1
              clear q0 q1
              have P := Lib.hid (moveX wc tb b _ k st i g a c hR.tr hR.snd.inv hR.snd.ok hR.os)
              have MI := Lib.hid (fun w3 ht hs => hR.mid (N' := (k : Int) + 1) ((hR.snd.mov i g a c).mono (by omega)) (w3 := w3) ht hs)
              have DOC := Lib.hid (fun w3 (h3 : Arena.RefAt w.heap.size v1 v2 v3 v4 (doc st) w3) (hB : w.heap.size ≤ w3.heap.size) => refMoveX (w := w3) i g a c h3 hB hR.snd)
              unfold Did at P
              generalize movS st i g a c = st' at *
              generalize movN st i g a c = pn at *
              obtain ⟨e1, c1, h1⟩ := Arena.owns_shape hR.dc.o1
              obtain ⟨e2, c2, h2⟩ := Arena.owns_shape hR.dc.o2
              obtain ⟨e3, c3, h3⟩ := Arena.owns_shape hR.dc.o3
              obtain ⟨e4, c4, h4⟩ := Arena.owns_shape hR.dc.o4
              subst h1 h2 h3 h4
              clear hR
              go_wp2_with fail
              go_at_call 12; refine P.out.mono ?_; rintro e w3 ⟨rfl, ht3, hs3⟩
              obtain ⟨m1, m2, m3, m4, m5, RC⟩ := MI.out w3 ht3 hs3
              have DC := Lib.hid (DOC.out _ m4 m5)
              have m2' := m2.trans HK.out
              have m3' := m3.trans GK.out
              have hX3 := lt_of m1
              clear P MI DOC HK GK m2 m3 m4 m5 ht3 hs3 x0 x1 xz y0 y1 yz z0
              obtain ⟨b0, b1, b2, b3, b4, bz⟩ := Arena.five m1
              obtain ⟨y0, y1, yz⟩ := Arena.pair m2'
              obtain ⟨x0, x1, xz⟩ := Arena.pair m3'
              go_wp2_with fail
              go_at_call 13; refine DC.out.mono ?_; rintro e w4 ⟨u1, u2, u3, u4, rfl, hR4, hN4, hg4⟩
              obtain ⟨f1, r1, j1⟩ := Arena.owns_shape hR4.o1
              obtain ⟨f2, r2, j2⟩ := Arena.owns_shape hR4.o2
              obtain ⟨f3, r3, j3⟩ := Arena.owns_shape hR4.o3
              obtain ⟨f4, r4, j4⟩ := Arena.owns_shape hR4.o4
              subst j1 j2 j3 j4
              have hV := alloc1 w4 (.cells #[.int .i64 32, .slice f1 (doc st').pl.length r1, .slice f2 (doc st').pl.length r2, .slice f3 (doc st').pl.length r3, .slice f4 (doc st').fr.length r4] 31)
              obtain ⟨vX, vR⟩ := RC.out w4 _ _ _ _ _ hR4 hN4 hg4 hV
              have t13 := heap_alloc_new w4 (.cells #[.int .i64 32, .slice f1 (doc st').pl.length r1, .slice f2 (doc st').pl.length r2, .slice f3 (doc st').pl.length r3, .slice f4 (doc st').fr.length r4] 31)
              have hHV := heap_fresh (heap_fresh m2' hg4) hV
              have hGV := heap_fresh (heap_fresh m3' hg4) hV
              have nX2 : w4.heap.size ≠ X := by have := hg4.size; omega
              have hHP := Lib.hid ((put5_other _ (lt_of hHV) nHX (.int .i64 32) (.slice f1 (doc st').pl.length r1) (.slice f2 (doc st').pl.length r2) (.slice f3 (doc st').pl.length r3) (.slice f4 (doc st').fr.length r4)).trans hHV)
              have hGP := Lib.hid ((put5_other _ (lt_of hGV) nGX (.int .i64 32) (.slice f1 (doc st').pl.length r1) (.slice f2 (doc st').pl.length r2) (.slice f3 (doc st').pl.length r3) (.slice f4 (doc st').fr.length r4)).trans hGV)
              have hRP := Lib.hid vR
              clear RC DC b0 b1 b2 b3 b4 bz y0 y1 yz x0 x1 xz m1 m2' m3' hV hHV hGV hR4 hN4 hg4 hX3 vR
              generalize (doc st').pl.length = mn at *
              generalize (doc st').fr.length = mf at *
              go_upto_region 19 with fail
              generalize w4.alloc _ = V at *
              generalize w4.heap.size = z4 at *
              obtain ⟨b0, b1, b2, b3, b4, bz⟩ := Arena.five vX
              obtain ⟨k0, k1, k2, k3, k4, kz'⟩ := Arena.five t13
              clear vX t13
              unfold put5 at hHP hGP hRP
              have F0 : Hid (CutG w tb b X H G k (.slice p6 T.length q6) (((((V.setCell ⟨X, 0, none⟩ (.int .i64 32)).setCell ⟨X, 1, none⟩ (.slice f1 mn r1)).setCell ⟨X, 2, none⟩ (.slice f2 mn r2)).setCell ⟨X, 3, none⟩ (.slice f3 mn r3)).setCell ⟨X, 4, none⟩ (.slice f4 mf r4))) := Lib.hid ⟨st', T, _, _, _, _, _, i, g, a, c, rfl, by omega, hRP.out, hHP.out, hGP.out⟩
              clear hHP hGP hRP
              go_wp2_with fail
              go_meet
              case rel => exact F0.out
        case rest =>
          clear hR y0 y1 yz x0 x1 xz z0 HK GK hvt
          obtain ⟨st, T, vt, v1, v2, v3, v4, i, g, a, c, rfl, hTl, hR, hHc, hGc⟩ := hcut
          have SM := Lib.hid (fun W (hg : Below wc.heap.size wc W) i g => sames W tb b w.heap.size _ ((k : Int) + 1) 32 v1 v2 v3 v4 st i g (hR.tr.fresh hg) (hR.dc.fresh hg) hR.snd)
          have AP := Lib.hid (fun W (hg : Below wc.heap.size wc W) => all W tb b _ st (hR.tr.fresh hg) hR.snd.inv.l1)
          have AD := Lib.hid (fun W (hg : Below wc.heap.size wc W) => Arena.refAll W w.heap.size 32 v1 v2 v3 v4 (doc st) (hR.dc.fresh hg) (by rw [doc_len]; exact hR.snd.inv.l1))
          have hh : Arena.hs (doc st).pl (doc st).pl.length = hs st.pl st.pl.length := by rw [doc_len]; exact doc_hs _ _
          rw [hh] at AD
          have hl9 : (hs st.pl st.pl.length).length ≤ 4096 := Nat.le_trans (hs_le _ _) hR.snd.inv.l1
          generalize hs st.pl st.pl.length = AL at *
          have S9 := Lib.hid (fun W BB BB' v v' h1 (h2 : W.ownsRow BB' 34 2 v' AL.length (Arena.cellsH AL)) => hands_same W BB BB' v v' AL h1 h2 hl9)
          have NX : Hid (∀ w6, Below wc.heap.size wc w6 → PlayI w tb b X n (60 - (k + 1)) vt (.int .i64 ((k : Int) + 1)) w6) := Lib.hid fun w6 hg => ⟨k + 1, st, T, vt, v1, v2, v3, v4, rfl, by omega, by omega, rfl, by go_num, by omega, by rw [Int.natCast_add]; exact (hR.fresh hg).rest⟩
          have BX : Hid (∀ W, Below wc.heap.size wc W → W.cell? ⟨X, 0, none⟩ = some (.int .i64 32) ∧ W.cell? ⟨X, 1, none⟩ = some v1 ∧ W.cell? ⟨X, 2, none⟩ = some v2 ∧ W.cell? ⟨X, 3, none⟩ = some v3 ∧ W.cell? ⟨X, 4, none⟩ = some v4) := Lib.hid fun W hg => by
            obtain ⟨a0, a1, a2, a3, a4, _⟩ := Arena.five (show W.heap[X]? = some (.cells #[.int .i64 32, v1, v2, v3, v4] 31 (0, 0)) from heap_fresh hR.box hg)
            exact ⟨a0, a1, a2, a3, a4⟩
          clear hR hh hl9 hTl
          obtain ⟨b0, b1, b2, b3, b4⟩ := BX.out wc (Below.refl _ _)
          obtain ⟨y0, y1, yz⟩ := Arena.pair hHc
          go_wp2_with fail
          go_at_call 14; refine (SM.out wc (Below.refl _ _) _ _).mono ?_; rintro e w6 ⟨rfl, hg6⟩
          clear b0 b1 b2 b3 b4 y0 y1 yz
          obtain ⟨b0, b1, b2, b3, b4⟩ := BX.out w6 hg6
          obtain ⟨x0, x1, xz⟩ := Arena.pair (heap_fresh hGc hg6)
          go_wp2_with fail
          go_at_call 14; refine (SM.out w6 hg6 _ _).mono ?_; rintro e w7 ⟨rfl, hg7⟩
          replace hg7 := hg6.trans (hg7.mono hg6.size)
          clear b0 b1 b2 b3 b4 x0 x1 xz SM hg6 hHc hGc
          obtain ⟨b0, b1, b2, b3, b4⟩ := BX.out w7 hg7
          have hg8 := hg7.drew
          have APD := Lib.hid (AP.out _ hg8)
          clear AP
          go_wp2_with fail
          go_region_held3 (fun w' => w'.cell? ⟨X, 0, none⟩ = some (.int .i64 32) ∧ w'.cell? ⟨X, 1, none⟩ = some v1 ∧ w'.cell? ⟨X, 2, none⟩ = some v2 ∧ w'.cell? ⟨X, 3, none⟩ = some v3 ∧ w'.cell? ⟨X, 4, none⟩ = some v4) (first | exact ⟨b0, b1, b2, b3, b4⟩ | exact ce)
            (first
              | (go_at_call 16; refine APD.out.mono ?_; rintro e k1 ⟨vk1, rfl, R1, gk1⟩; have hk1 := hg8.trans (gk1.mono hg8.size); have ce := BX.out _ hk1)
              | (go_at_call 17; refine (AD.out _ hk1).mono ?_; rintro e k2 ⟨vk2, rfl, R2, gk2⟩; have R1' := Arena.owns_fresh R1 gk2; have hk2 := hk1.trans (gk2.mono hk1.size); have ce := BX.out _ hk2)
              | (go_at_call 15; (with_reducible refine (S9.out _ _ _ _ _ R1' R2).mono ?_); rintro e k3 ⟨rfl, gk3⟩; have hk3 := hk2.trans (gk3.mono hk2.size); have ce := BX.out _ hk3))
          have F1 := Lib.hid (NX.out _ hk3)
          clear NX BX AD S9 APD R1 R1' R2 ce hk1 hk2
          go_wp2_with fail
          go_roundg (60 - (k + 1))
          case measure => omega
          case rel => exact F1.out
    · have hd : ¬ (k : Int) < n ∨ ((k : Int) < n ∧ ¬ (k : Int) < 60) := by omega
      have hbel := Lib.hid hR.s
      clear hR HC hlt
      rcases hd with q1 | ⟨q1, q2⟩
      all_goals
        go_wp2_with fail
        go_ret
        exact ⟨rfl, hbel.out⟩
theorem deeds_of {v : Option Addr} {n : Nat} {w : World} (h : ∀ j, j < n → ∃ k off, v = some ⟨k, off, none⟩ ∧ k < w.heap.size ∧ ∃ (d0 d1 d2 : Int) (d3 : Bool) (d4 d5 d6 d7 : Int), ((Lit.int .i64 d0).wf = true ∧ (Lit.int .i64 d1).wf = true ∧ (Lit.int .i64 d2).wf = true) ∧ w.cell? ⟨k, off + j * 8, none⟩ = some (.int .i64 d0) ∧ w.cell? ⟨k, off + j * 8 + 1, none⟩ = some (.int .i64 d1) ∧ w.cell? ⟨k, off + j * 8 + 2, none⟩ = some (.int .i64 d2) ∧ w.cell? ⟨k, off + j * 8 + 3, none⟩ = some (.bool d3) ∧ w.cell? ⟨k, off + j * 8 + 4, none⟩ = some (.int .i64 d4) ∧ w.cell? ⟨k, off + j * 8 + 5, none⟩ = some (.int .i64 d5) ∧ w.cell? ⟨k, off + j * 8 + 6, none⟩ = some (.int .i64 d6) ∧ w.cell? ⟨k, off + j * 8 + 7, none⟩ = some (.int .i64 d7)) : Deeds v n w := fun j hj => by
  obtain ⟨k, off, e, hk, d0, d1, d2, d3, d4, d5, d6, d7, ⟨_, w1, w2⟩, hc⟩ := h j hj
  exact ⟨k, off, e, hk, d0, d1, d2, d3, d4, d5, d6, d7, ⟨bounds_i64 w1, bounds_i64 w2⟩, hc⟩
end Go.Proofs.Ytanahddlnchioaa.Gt
