/- The walk of TurnPlays. Conditions: each number is one of its kind. -/
import Derived.Test.YtfbnnkmjnolnlaaTurnAllW
import Derived.Test.YtfbnnkmjnolnlaaTurnDoc
namespace Go.Proofs.Ytfbnnkmjnolnlaa.Turn
open Go.ChangeShapes Go.WideShapes Go.ChangeAt Go.RowKit Mem
open Fix (I64)
set_option linter.unusedVariables false
set_option linter.unusedSimpArgs false
set_option maxRecDepth 100000

theorem refTick (w : World) (c : Ck) (n x d : Int) (g : Good c) (hn : U64 n) (hx : U64 x) (hd : U64 d) :
    Calls Try.prog 14 #[docV c, .int .u64 n, .int .u64 x, .int .u64 d] w (Fresh (.tuple #[docV (tickS c n), .bool (tickB c n x d), .int .i64 (tickE n)]) w) := by
  unfold tickB tickE tickS
  by_cases h1 : 1000000000 < n
  · simp only [if_pos h1]
    exact refTick_far w c n x d h1
  · simp only [if_neg h1]
    by_cases h2 : c.task < 0
    · simp only [if_pos h2]
      exact refTick_idle w c n x d g hn h1 h2
    · simp only [if_neg h2]
      exact refTick_busy w c n x d g hn hx hd h1 h2
def docO (c : Ck) : Obj := .cells #[.int .u64 c.lat, .int .i64 c.task, .int .u64 c.ran, .int .u64 c.busy, .int .u64 c.idle] 30 (0, 0)
theorem store5 {w0 w : World} {b g : Nat} {O : Nat → Prop} {c c0 : Ck} (c' : Ck) (h : Held w0 O b c w) (hb : w0.heap.size ≤ b) (hg : w0.heap.size ≤ g) (hne : b ≠ g) (hx : w.heap[g]? = some (docO c0)) :
    Held w0 (· < b) b c (((((w.setCell ⟨g, 0, none⟩ (.int .u64 c'.lat)).setCell ⟨g, 1, none⟩ (.int .i64 c'.task)).setCell ⟨g, 2, none⟩ (.int .u64 c'.ran)).setCell ⟨g, 3, none⟩ (.int .u64 c'.busy)).setCell ⟨g, 4, none⟩ (.int .u64 c'.idle)) ∧ (((((w.setCell ⟨g, 0, none⟩ (.int .u64 c'.lat)).setCell ⟨g, 1, none⟩ (.int .i64 c'.task)).setCell ⟨g, 2, none⟩ (.int .u64 c'.ran)).setCell ⟨g, 3, none⟩ (.int .u64 c'.busy)).setCell ⟨g, 4, none⟩ (.int .u64 c'.idle)).heap[g]? = some (docO c') := by
  refine ⟨⟨⟨?_, Nat.lt_irrefl _⟩, h.good, fun k hk => ?_, fun k hk => Nat.lt_of_lt_of_le hk hb, put5 h.below hg _ _ _ _ _⟩, ?_⟩
  · rw [Below.heap_setCell _ _ _ _ hne, Below.heap_setCell _ _ _ _ hne, Below.heap_setCell _ _ _ _ hne, Below.heap_setCell _ _ _ _ hne, Below.heap_setCell _ _ _ _ hne]
    exact h.clk.blk
  · have := h.clk.lt
    simp only [World.setCell, Array.size_modify]
    omega
  · exact set_block (set_block (set_block (set_block (set_block hx 0 _) 1 _) 2 _) 3 _) 4 _
def PlayI (W1 : World) (b g : Nat) (left : Nat) (ti : Value) (wr : World) : Prop := ∃ (k : Nat) (c : Ck), k ≤ 100 ∧ left = 100 - k ∧ ti = .int .i64 k ∧ Held W1 (· < b) b c wr ∧ wr.heap[g]? = some (docO c)
theorem play_end {W1 : World} {b g k : Nat} (hk : k < 100) {c : Ck} {w : World} (h : Held W1 (· < b) b c w) (hx : w.heap[g]? = some (docO c)) : PlayI W1 b g (100 - (k + 1)) (.int .i64 ((k : Int) + 1)) w :=
  ⟨k + 1, c, by omega, by omega, by go_num, h, hx⟩
theorem play_read {W1 : World} {b : Nat} {c : Ck} {w : World} (h : Held W1 (· < b) b c w) :
    Calls Try.prog 17 #[.pointer (some ⟨b, 0, none⟩)] w (Still (.int .i64 c.task) w) ∧ Calls Try.prog 18 #[.pointer (some ⟨b, 0, none⟩)] w (Still (.int .u64 c.ran) w) ∧
    Calls Try.prog 19 #[.pointer (some ⟨b, 0, none⟩)] w (Still (.int .u64 c.busy) w) ∧ Calls Try.prog 20 #[.pointer (some ⟨b, 0, none⟩)] w (Still (.int .u64 c.idle) w) :=
  ⟨task w b _ _ h.clk, ran w b _ _ h.clk, Turn.busy w b _ _ h.clk, idle w b _ _ h.clk⟩
theorem cells5 {w : World} {g : Nat} {c : Ck} (h : w.heap[g]? = some (docO c)) : w.cell? ⟨g, 0, none⟩ = some (.int .u64 c.lat) ∧ w.cell? ⟨g, 1, none⟩ = some (.int .i64 c.task) ∧ w.cell? ⟨g, 2, none⟩ = some (.int .u64 c.ran) ∧ w.cell? ⟨g, 3, none⟩ = some (.int .u64 c.busy) ∧ w.cell? ⟨g, 4, none⟩ = some (.int .u64 c.idle) := by
  obtain ⟨x0, x1, x2, x3, x4, -⟩ := five h
  exact ⟨x0, x1, x2, x3, x4⟩
theorem deed_in {w w' : World} {d0 : Bool} {d1 d2 d3 d4 : Int} {b g : Nat} {o : Obj} (hb : b < w.heap.size) (hg : g ≠ b) (hx : w.heap[g]? = some o) (hs : Same (fun k => k ≠ b ∧ k < (w.alloc (DeedC d0 d1 d2 d3 d4)).heap.size) (w.alloc (DeedC d0 d1 d2 d3 d4)) w') :
    w'.heap[g]? = some o ∧ w'.heap[w.heap.size]? = some (DeedC d0 d1 d2 d3 d4) :=
  ⟨(hs.block _ ⟨hg, by have := lt_of hx; simp; omega⟩).trans (box_new hx), (hs.block _ ⟨by omega, by simp⟩).trans (heap_alloc_new w _)⟩
set_option maxHeartbeats 16000000 in
theorem playsLaw (l : Int) (v : Option Addr) (len cap : Nat) (w : World) (hl : U64 l) (hlen : len ≤ 9223372036854775807) (hC : DeedsL v len w) :
    Calls Try.prog 3 #[.int .u64 l, .slice v len cap] w (Yes w) := by
  have HC := Lib.hid (fun w1 (h : Below w.heap.size w w1) => hC.fresh h)
  clear hC
  cases hb : badNew l
  · have C0 := Lib.hid (fun w1 => (new w1 l hb).mono fun e w' r => Held.new (w0 := w1) hl (Below.refl _ w1) r)
    have D0 := Lib.hid (fun w1 => refNew w1 l hb)
    clear hb
    go_enter Try.func3, Try.ntmps3
    go_wp2_with fail
    go_at_call 10; refine (awake _).mono ?_; rintro e W1 ⟨rfl, hg1⟩
    replace HC := Lib.hid (HC.out _ hg1)
    go_wp2_with fail
    go_at_call 11; (with_reducible refine (C0.out _).mono ?_); rintro e w2 ⟨rfl, h2, s2⟩
    generalize hb : W1.heap.size = b at *
    go_wp2_with fail
    go_at_call 12; (with_reducible refine (D0.out _).mono ?_); rintro e w3 ⟨rfl, hg3⟩
    replace h2 := h2.fresh hg3
    unfold docV
    have I0 : Hid (∀ g, g = w3.heap.size → (b ≠ g ∧ W1.heap.size ≤ g) ∧ PlayI W1 b g 100 (.int .i64 0) (w3.alloc (.cells #[.int .u64 (newC l).lat, .int .i64 (newC l).task, .int .u64 (newC l).ran, .int .u64 (newC l).busy, .int .u64 (newC l).idle] 30))) := by
      refine Lib.hid ?_
      rintro g rfl
      have hlt := h2.clk.lt
      exact ⟨⟨by omega, h2.below.size⟩, 0, newC l, by omega, rfl, rfl, h2.fresh (alloc1 _ _), heap_alloc_new w3 _⟩
    clear h2 hg3 s2 C0 D0
    go_wp2_with fail
    generalize w3.alloc (.cells #[.int .u64 (newC l).lat, .int .i64 (newC l).task, .int .u64 (newC l).ran, .int .u64 (newC l).busy, .int .u64 (newC l).idle] 30) = w4 at *
    generalize hgg : w3.heap.size = g at *
    obtain ⟨⟨hne, hgs⟩, I1⟩ := I0.out g rfl
    replace I1 := Lib.hid I1
    clear I0 hgg
    go_loopg [10] 100 (fun left ti wr => PlayI W1 b g left ti wr)
    case atStart => exact I1.out
    case round =>
      clear I1
      obtain ⟨k, c, hk, rfl, rfl, hH, hx⟩ := hrel
      have hg2 := hH.below
      have hbb : W1.heap.size ≤ b := by omega
      by_cases hlt : k < len ∧ k < 100
      · obtain ⟨l1, l2⟩ := hlt
        have q1 : (k : Int) < len := by omega
        have q2 : (k : Int) < 100 := by omega
        obtain ⟨kb, off, rfl, hkb, d0, d1, d2, d3, d4, ⟨z1, z2, z3, z4⟩, c0', c1', c2', c3', c4'⟩ := HC.out k l1
        have c0 := (hg2.cell hkb).trans c0'
        have c1 := (hg2.cell hkb).trans c1'
        have c2 := (hg2.cell hkb).trans c2'
        have c3 := (hg2.cell hkb).trans c3'
        have c4 := (hg2.cell hkb).trans c4'
        clear c0' c1' c2' c3' c4'
        have hbl := hH.clk.lt
        have HW := (hH.fresh (alloc1 wr (DeedC d0 d1 d2 d3 d4))).wide hbb
        have DI := Lib.hid (fun w' => deed_in (w := wr) (w' := w') (d0 := d0) (d1 := d1) (d2 := d2) (d3 := d3) (d4 := d4) hbl (Ne.symm hne) hx)
        have PE := Lib.hid (fun c' w' (h : Held W1 (· < b) b c' w') (hx : w'.heap[g]? = some (docO c')) => (⟨play_end l2 h hx, play_read h⟩ : PlayI W1 b g (100 - (k + 1)) (.int .i64 ((k : Int) + 1)) w' ∧ _))
        have ST := Lib.hid (fun (O : Nat → Prop) c' c0 w' (h : Held W1 O b c' w') (hx : w'.heap[g]? = some (docO c0)) => store5 c' h hbb hgs hne hx)
        unfold DeedC at DI
        unfold docO at DI PE ST
        cases d0
        · have B := Lib.hid (HW.beg d1 z1.2)
          have RB := Lib.hid (fun W => refBegin W c d1)
          obtain ⟨c', hc'⟩ : ∃ c', begS c d1 = c' := ⟨_, rfl⟩
          rw [hc'] at B RB
          unfold DeedC at B
          unfold docV at RB
          clear hc' HW hH
          obtain ⟨x0, x1, x2, x3, x4, xz⟩ := five hx
          clear hx
          go_wp2_with fail
          go_at_call 15; (with_reducible refine B.out.mono ?_); rintro e w3 ⟨rfl, h3, s3⟩
          obtain ⟨hx3, hd3⟩ := DI.out _ s3
          clear s3 DI B c0 c1 c2 c3 c4 x0 x1 x2 x3 x4 xz
          obtain ⟨x0, x1, x2, x3, x4, xz⟩ := five hx3
          obtain ⟨c0, c1, c2, c3, c4, cz⟩ := five hd3
          clear hd3
          go_wp2_with fail
          go_at_call 16; (with_reducible refine (RB.out _).mono ?_); rintro e w5 ⟨rfl, hg5⟩
          have h5 := h3.fresh hg5
          have hx5 := box_fresh hx3 hg5
          clear h3 hx3 RB x0 x1 x2 x3 x4 xz c0 c1 c2 c3 c4 cz
          obtain ⟨x0, x1, x2, x3, x4, xz⟩ := five hx5
          obtain ⟨HS, HX⟩ := ST.out _ _ _ _ h5 hx5
          have N := Lib.hid (fun W2 hg => (PE.out _ _ (HS.fresh (w' := W2) hg) (box_fresh (w' := W2) HX hg)).1)
          have RD := Lib.hid (fun W2 hg => play_read (HS.fresh (w' := W2) hg))
          have CE := Lib.hid (fun W2 hg => cells5 (box_fresh (w' := W2) HX hg))
          have y0 := five HX
          clear HS HX ST PE h5 hx5
          obtain ⟨y0, y1, y2, y3, y4, yz⟩ := y0
          have e1 : (c'.task != c'.task) = false := by simp
          have e2 : (c'.ran != c'.ran) = false := by simp
          have e3 : (c'.busy != c'.busy) = false := by simp
          have e4 : (c'.idle != c'.idle) = false := by simp
          go_wp2_with fail
          generalize ((((w5.setCell ⟨g, 0, none⟩ (.int .u64 c'.lat)).setCell ⟨g, 1, none⟩ (.int .i64 c'.task)).setCell ⟨g, 2, none⟩ (.int .u64 c'.ran)).setCell ⟨g, 3, none⟩ (.int .u64 c'.busy)).setCell ⟨g, 4, none⟩ (.int .u64 c'.idle) = V at *
          go_region_held3 (fun w' => w'.cell? ⟨g, 0, none⟩ = some (.int .u64 c'.lat) ∧ w'.cell? ⟨g, 1, none⟩ = some (.int .i64 c'.task) ∧ w'.cell? ⟨g, 2, none⟩ = some (.int .u64 c'.ran) ∧ w'.cell? ⟨g, 3, none⟩ = some (.int .u64 c'.busy) ∧ w'.cell? ⟨g, 4, none⟩ = some (.int .u64 c'.idle)) (first | exact ⟨y0, y1, y2, y3, y4⟩ | exact CE.out _ (by first | exact Below.refl _ _ | exact (Below.refl _ _).drew))
            (first
              | (go_at_call 17; (with_reducible refine (RD.out _ (by first | exact Below.refl _ _ | exact (Below.refl _ _).drew)).1.mono ?_); rintro e w9 ⟨rfl, rfl⟩)
              | (go_at_call 18; (with_reducible refine (RD.out _ (by first | exact Below.refl _ _ | exact (Below.refl _ _).drew)).2.1.mono ?_); rintro e w9 ⟨rfl, rfl⟩)
              | (go_at_call 19; (with_reducible refine (RD.out _ (by first | exact Below.refl _ _ | exact (Below.refl _ _).drew)).2.2.1.mono ?_); rintro e w9 ⟨rfl, rfl⟩)
              | (go_at_call 20; (with_reducible refine (RD.out _ (by first | exact Below.refl _ _ | exact (Below.refl _ _).drew)).2.2.2.mono ?_); rintro e w9 ⟨rfl, rfl⟩))
          all_goals
            go_wp2_with fail
            go_roundg (100 - (k + 1))
            case measure => omega
            case rel => exact N.out _ (by first | exact Below.refl _ _ | exact (Below.refl _ _).drew)
        · have T := Lib.hid (HW.tick d2 d3 d4 z2 z3 z4)
          have RT := Lib.hid (fun W => refTick W c d2 d3 d4 hH.good z2 z3 z4)
          obtain ⟨c', hc'⟩ : ∃ c', tickS c d2 = c' := ⟨_, rfl⟩
          rw [hc'] at T RT
          generalize tickB c d2 d3 d4 = y at *
          generalize tickE d2 = er at *
          unfold DeedC at T
          unfold docV at RT
          clear hc' HW hH
          obtain ⟨x0, x1, x2, x3, x4, xz⟩ := five hx
          clear hx
          go_wp2_with fail
          go_at_call 13; (with_reducible refine T.out.mono ?_); rintro e w3 ⟨rfl, h3, s3⟩
          obtain ⟨hx3, hd3⟩ := DI.out _ s3
          clear s3 DI T c0 c1 c2 c3 c4 x0 x1 x2 x3 x4 xz
          obtain ⟨x0, x1, x2, x3, x4, xz⟩ := five hx3
          obtain ⟨c0, c1, c2, c3, c4, cz⟩ := five hd3
          clear hd3
          go_wp2_with fail
          go_at_call 14; (with_reducible refine (RT.out _).mono ?_); rintro e w5 ⟨rfl, hg5⟩
          have h5 := (h3.fresh hg5).fresh (alloc1 w5 (.cells #[.int .u64 c'.lat, .int .i64 c'.task, .int .u64 c'.ran, .int .u64 c'.busy, .int .u64 c'.idle] 30))
          have hx5 := box_new (o' := .cells #[.int .u64 c'.lat, .int .i64 c'.task, .int .u64 c'.ran, .int .u64 c'.busy, .int .u64 c'.idle] 30 (0, 0)) (box_fresh hx3 hg5)
          clear h3 hx3 RT x0 x1 x2 x3 x4 xz c0 c1 c2 c3 c4 cz
          obtain ⟨x0, x1, x2, x3, x4, xz⟩ := five hx5
          have ey : (y != y) = false := by simp
          have ee : (er != er) = false := by simp
          obtain ⟨HS, HX⟩ := ST.out _ _ _ _ h5 hx5
          have N := Lib.hid (fun W2 hg => (PE.out _ _ (HS.fresh (w' := W2) hg) (box_fresh (w' := W2) HX hg)).1)
          have RD := Lib.hid (fun W2 hg => play_read (HS.fresh (w' := W2) hg))
          have CE := Lib.hid (fun W2 hg => cells5 (box_fresh (w' := W2) HX hg))
          have y0 := five HX
          clear HS HX ST PE h5 hx5
          obtain ⟨y0, y1, y2, y3, y4, yz⟩ := y0
          have e1 : (c'.task != c'.task) = false := by simp
          have e2 : (c'.ran != c'.ran) = false := by simp
          have e3 : (c'.busy != c'.busy) = false := by simp
          have e4 : (c'.idle != c'.idle) = false := by simp
          go_wp2_with fail
          generalize (((((w5.alloc (.cells #[.int .u64 c'.lat, .int .i64 c'.task, .int .u64 c'.ran, .int .u64 c'.busy, .int .u64 c'.idle] 30)).setCell ⟨g, 0, none⟩ (.int .u64 c'.lat)).setCell ⟨g, 1, none⟩ (.int .i64 c'.task)).setCell ⟨g, 2, none⟩ (.int .u64 c'.ran)).setCell ⟨g, 3, none⟩ (.int .u64 c'.busy)).setCell ⟨g, 4, none⟩ (.int .u64 c'.idle) = V at *
          go_region_held3 (fun w' => w'.cell? ⟨g, 0, none⟩ = some (.int .u64 c'.lat) ∧ w'.cell? ⟨g, 1, none⟩ = some (.int .i64 c'.task) ∧ w'.cell? ⟨g, 2, none⟩ = some (.int .u64 c'.ran) ∧ w'.cell? ⟨g, 3, none⟩ = some (.int .u64 c'.busy) ∧ w'.cell? ⟨g, 4, none⟩ = some (.int .u64 c'.idle)) (first | exact ⟨y0, y1, y2, y3, y4⟩ | exact CE.out _ (by first | exact Below.refl _ _ | exact (Below.refl _ _).drew))
            (first
              | (go_at_call 17; (with_reducible refine (RD.out _ (by first | exact Below.refl _ _ | exact (Below.refl _ _).drew)).1.mono ?_); rintro e w9 ⟨rfl, rfl⟩)
              | (go_at_call 18; (with_reducible refine (RD.out _ (by first | exact Below.refl _ _ | exact (Below.refl _ _).drew)).2.1.mono ?_); rintro e w9 ⟨rfl, rfl⟩)
              | (go_at_call 19; (with_reducible refine (RD.out _ (by first | exact Below.refl _ _ | exact (Below.refl _ _).drew)).2.2.1.mono ?_); rintro e w9 ⟨rfl, rfl⟩)
              | (go_at_call 20; (with_reducible refine (RD.out _ (by first | exact Below.refl _ _ | exact (Below.refl _ _).drew)).2.2.2.mono ?_); rintro e w9 ⟨rfl, rfl⟩))
          all_goals
            go_wp2_with fail
            go_roundg (100 - (k + 1))
            case measure => omega
            case rel => exact N.out _ (by first | exact Below.refl _ _ | exact (Below.refl _ _).drew)
      · have FIN := Lib.hid (fresh_trans hg1 hg2)
        clear hH hx
        have hcond : (¬ (k : Int) < len) ∨ ((k : Int) < len ∧ ¬ (k : Int) < 100) := by omega
        clear hlt
        rcases hcond with q1 | ⟨q1, q2⟩
        all_goals
          go_wp2_with fail
          go_ret
          exact ⟨rfl, FIN.out⟩
  · have C0 := Lib.hid (fun w1 => new_none w1 l hb)
    have D0 := Lib.hid (fun w1 => refNew_none w1 l hb)
    unfold docV at D0
    clear hb
    go_enter Try.func3, Try.ntmps3
    go_wp2_with fail
    go_at_call 10; refine (awake _).mono ?_; rintro e W1 ⟨rfl, hg1⟩
    go_wp2_with fail
    go_at_call 11; (with_reducible refine (C0.out _).mono ?_); rintro e w2 ⟨rfl, rfl⟩
    go_wp2_with fail
    go_at_call 12; (with_reducible refine (D0.out _).mono ?_); rintro e w3 ⟨rfl, hg3⟩
    go_wp2_with fail
    go_ret
    exact ⟨rfl, (fresh_trans hg1 hg3).alloc (fresh_trans hg1 hg3).size _⟩
end Go.Proofs.Ytfbnnkmjnolnlaa.Turn
