/- The walk of FifoPlays. Conditions: each number is one of its kind. -/
import Derived.Test.YthphileaaoeamaaFifoRef
namespace Go.Proofs.Ythphileaaoeamaa.Fifo
open Go.ChangeShapes Go.WideShapes Go.ChangeAt Go.RowKit Mem
set_option linter.unusedVariables false
set_option linter.unusedSimpArgs false
set_option maxRecDepth 100000

/-- Deeds that came in. -/
def Comes (v : Option Addr) (len : Nat) (w : World) : Prop := ∀ j, j < len → ∃ k off, v = some ⟨k, off, none⟩ ∧ k < w.heap.size ∧ ∃ d0 d1 : Int, (I64 d0 ∧ I64 d1) ∧ w.cell? ⟨k, off + j * 2, none⟩ = some (.int .i64 d0) ∧ w.cell? ⟨k, off + j * 2 + 1, none⟩ = some (.int .i64 d1)
theorem Comes.fresh {v : Option Addr} {len : Nat} {w w' : World} (h : Comes v len w) (hg : Below w.heap.size w w') : Comes v len w' := by
  intro j hj
  obtain ⟨k, o, e, hk, d0, d1, r, c0, c1⟩ := h j hj
  exact ⟨k, o, e, by have := hg.size; omega, d0, d1, r, (hg.cell (p := ⟨k, _, none⟩) hk).trans c0, (hg.cell (p := ⟨k, _, none⟩) hk).trans c1⟩
structure PlayH (w : World) (b : Nat) (xs : List Int) (u : Value) (wr : World) : Prop where
  line : Line wr b (· ≠ b) xs
  list : ∃ v cap, u = .slice v xs.length cap ∧ Dl (b + 1) v cap xs wr
  good : Good xs
  old : w.heap.size ≤ b
  below : Below w.heap.size w wr
def PlayI (w : World) (b n : Nat) (left : Nat) (u t : Value) (wr : World) : Prop :=
  ∃ (k : Nat) (xs : List Int), k ≤ n ∧ k ≤ 300 ∧ left = 300 - k ∧ t = .int .i64 k ∧ PlayH w b xs u wr
theorem PlayH.fresh {w : World} {b : Nat} {xs : List Int} {u : Value} {wr w' : World} (h : PlayH w b xs u wr) (hg : Below wr.heap.size wr w') : PlayH w b xs u w' := by
  obtain ⟨h1, ⟨v, cap, e, h2⟩, h3, h4, h5⟩ := h
  exact ⟨h1.fresh hg, ⟨v, cap, e, h2.fresh hg⟩, h3, h4, h5.trans (hg.mono h5.size)⟩
theorem Dl.same {b : Nat} {v : Option Addr} {cap : Nat} {xs : List Int} {w w' : World} (h : Dl (b + 1) v cap xs w) (hs : Same (· ≠ b) w w') : Dl (b + 1) v cap xs w' :=
  ⟨h.lst.same hs (fun k hk => by show k ≠ b; omega), h.none_, h.cap⟩
/-- What is asked behind each deed. -/
theorem tail {w : World} {b n k : Nat} {ys : List Int} {v : Option Addr} {cap : Nat} {w4 : World} (h : PlayH w b ys (.slice v ys.length cap) w4) (hk : k < n) (h3 : k < 300) :
    Hid (Calls Try.prog 16 #[.pointer (some ⟨b, 0, none⟩)] w4 (Still (.int .i64 (ys.length : Int)) w4)) ∧
    Hid (Calls Try.prog 18 #[.pointer (some ⟨b, 0, none⟩)] w4 (fun e w5 => ∃ ao cp, e = .returned (.slice ao ys.length cp) ∧ Below w4.heap.size w4 w5 ∧ Hid (Calls Try.prog 17 #[.slice ao ys.length cp, .slice v ys.length cap] w5 (Yes w5)))) ∧
    Hid (∀ w6, Below w4.heap.size w4 w6 → PlayI w b n (300 - (k + 1)) (.slice v ys.length cap) (.int .i64 ((k : Int) + 1)) w6) := by
  obtain ⟨v', cap', e, hd⟩ := h.list
  cases e
  have hf := h.line.few
  refine ⟨?_, ?_, fun w6 hg => ⟨k + 1, ys, by omega, by omega, rfl, by go_num, h.fresh hg⟩⟩
  · obtain ⟨r, f, hP, _⟩ := h.line
    exact len w4 b _ r f _ hP
  · refine (list w4 b _ ys h.line).mono ?_
    rintro e w5 ⟨ao, cp, rfl, hl, hg⟩
    exact ⟨ao, cp, rfl, hg, sames _ _ _ _ _ _ _ ys _ rfl (by omega) (Lib.hid hl) (Lib.hid (hd.lst.fresh hg))⟩
set_option maxHeartbeats 4000000 in
theorem playsLaw (v : Option Addr) (n cap : Nat) (w : World) (hn : n ≤ 9223372036854775807) (hc : Comes v n w) :
    Calls Try.prog 3 #[.slice v n cap] w (Yes w) := by
  have S := Lib.hid (fun w => shown w)
  have hg := Below.refl w.heap.size w
  have CA := Lib.hid (fun w1 (h : Below w.heap.size w w1) => hc.fresh h)
  clear hc
  go_enter Try.func3, Try.ntmps3
  go_wp2_with (first
    | (go_at_call 9; refine (S.out _).mono ?_; rintro e w' ⟨rfl, hg1⟩; replace hg := fresh_trans hg hg1; clear hg1)
    | (go_at_call 10; refine (new _).mono ?_; rintro e w2 ⟨rfl, h2, g2⟩))
  have H0 : Hid (PlayI w w'.heap.size n 300 (.slice none 0 0) (.int .i64 0) w2) := ⟨0, [], by omega, by omega, rfl, rfl, ⟨h2.away, ⟨none, 0, rfl, Lst.nil _ _ _, fun _ => ⟨rfl, rfl⟩, by simp⟩, Good.nil, hg.size, hg.trans (g2.mono hg.size)⟩⟩
  clear S h2 g2 hg
  generalize w'.heap.size = b at *
  go_loopg [5, 6] 300 (fun left u t wr => PlayI w b n left u t wr)
  case atStart => exact H0.out
  case round =>
    clear H0
    obtain ⟨k, xs, hk, hk3, rfl, rfl, hH⟩ := hrel
    by_cases hlt : k < n ∧ k < 300
    · obtain ⟨l1, l2⟩ := hlt
      have q1 : (k : Int) < n := by omega
      have q2 : (k : Int) < 300 := by omega
      obtain ⟨dk, off, rfl, hdk, kd, p, ⟨⟨k0, k1⟩, p0, p1⟩, c0, c1⟩ := CA.out _ hH.below k l1
      have hgA := alloc1 wr (.cells #[.int .i64 kd, .int .i64 p] 28)
      have hA := heap_alloc_new wr (.cells #[.int .i64 kd, .int .i64 p] 28)
      have hD : wr.heap.size ≠ b := by have := hH.line.lt; omega
      replace hH := hH.fresh hgA
      obtain ⟨v5, cap5, rfl, hL⟩ := hH.list
      obtain ⟨e0, e1, ez⟩ := two hA
      go_upto_region 10 with fail
      clear c0 c1 hdk
      generalize wr.alloc (.cells #[.int .i64 kd, .int .i64 p] 28) = W at *
      generalize wr.heap.size = D at *
      by_cases d0 : kd = 0
      · subst d0
        have P := Lib.hid (put W b (· ≠ b) xs p hH.line)
        have R : Hid (∀ w3, Line w3 b (· ≠ b) (putL xs p) → Same (· ≠ b) W w3 → Calls Try.prog 12 #[.slice v5 xs.length cap5, .int .i64 p] w3 (fun e w4 => ∃ ao cp, e = .returned (.tuple #[.slice ao (putL xs p).length cp, .bool (may xs p)]) ∧ PlayH w b (putL xs p) (.slice ao (putL xs p).length cp) w4 ∧ Below w3.heap.size w3 w4)) := fun w3 hl hs => by
          refine (refPut (b + 1) v5 cap5 xs p w3 (hL.same hs) hH.line.few (by have := hl.lt; omega)).mono ?_
          rintro e w4 ⟨ao, cp, rfl, hd, hg⟩
          have hb3 : Below w.heap.size w w3 := hH.below.trans (near hs hH.old hH.below.size)
          exact ⟨ao, cp, rfl, ⟨hl.fresh hg, ⟨ao, cp, rfl, hd⟩, hH.good.put p1, hH.old, hb3.trans (hg.mono hb3.size)⟩, hg⟩
        have BX : Hid (∀ w3, Same (· ≠ b) W w3 → w3.heap[D]? = some (.cells #[.int .i64 0, .int .i64 p] 28 (0, 0))) := fun w3 hs => (hs.block D hD).trans hA
        clear hH hL
        generalize hy : putL xs p = ys at *
        generalize may xs p = m at *
        generalize xs.length = xn at *
        go_wp2_with fail
        go_at_call 11; refine P.out.mono ?_; rintro e w3 ⟨rfl, h3, s3⟩
        obtain ⟨f0, f1, fz⟩ := two (BX.out w3 s3)
        replace R := Lib.hid (R.out w3 h3 s3)
        clear P BX h3 s3 e0 e1 ez hA
        go_wp2_with fail
        go_at_call 12; refine R.out.mono ?_; rintro e w4 ⟨ao, cp, rfl, h4, g4⟩
        obtain ⟨LN, LS, NX⟩ := tail (k := k) h4 l1 l2
        have hyl : ys.length ≤ 64 := h4.line.few
        clear R h4 g4 f0 f1 fz hy
        generalize ys.length = yn at *
        cases m
        all_goals
          go_wp2_with (first
            | (go_at_call 16; refine LN.out.mono ?_; rintro e w5 ⟨rfl, rfl⟩)
            | (go_at_call 18; refine LS.out.mono ?_; rintro e w5 ⟨ao5, cp5, rfl, hg5, SM⟩)
            | (go_at_call 17; refine SM.out.mono ?_; rintro e w6 ⟨rfl, hg6⟩; have NX' := Lib.hid (NX.out _ (fresh_trans hg5 hg6))))
          go_roundg (300 - (k + 1))
          case measure => omega
          case rel => exact NX'.out
      have d0' : (kd == 0) = false := by simpa using d0
      by_cases d1 : kd = 1
      · subst d1
        cases xs with
        | nil =>
          have T := Lib.hid (take_none W b (· ≠ b) hH.line)
          obtain ⟨LN, LS, NX⟩ := tail (k := k) hH l1 l2
          clear hH hL hA
          go_wp2_with fail
          go_at_call 13; refine T.out.mono ?_; rintro e w3 ⟨rfl, rfl⟩
          go_wp2_with (first
            | (go_at_call 16; refine LN.out.mono ?_; rintro e w5 ⟨rfl, rfl⟩)
            | (go_at_call 18; refine LS.out.mono ?_; rintro e w5 ⟨ao5, cp5, rfl, hg5, SM⟩)
            | (go_at_call 17; refine SM.out.mono ?_; rintro e w6 ⟨rfl, hg6⟩; have NX' := Lib.hid (NX.out _ (fresh_trans hg5 hg6))))
          go_roundg (300 - (k + 1))
          case measure => omega
          case rel => exact NX'.out
        | cons x xs =>
          obtain ⟨b2, o2, rfl, hB2, hb2, cx⟩ := hL.lst 0 x rfl
          have hcap := hL.cap
          have T := Lib.hid (take W b (· ≠ b) x xs hH.line)
          have hxl : xs.length ≤ 63 := by have := hH.good.few; simp at this; exact this
          by_cases hc1 : cap5 = 1
          · subst hc1
            obtain rfl : xs = [] := List.eq_nil_of_length_eq_zero (by simp at hcap; simpa using hcap)
            have R : Hid (∀ w3, Line w3 b (· ≠ b) [] → Same (· ≠ b) W w3 → w3.cell? ⟨b2, o2, none⟩ = some (.int .i64 x) ∧ PlayH w b [] (.slice (some ⟨b2, o2, none⟩) ([] : List Int).length 0) w3) := fun w3 hl hs => by
              have hb3 : Below w.heap.size w w3 := hH.below.trans (near hs hH.old hH.below.size)
              obtain ⟨b3, o3, e3, _, _, c3⟩ := (hL.same hs).lst 0 x rfl
              cases e3
              exact ⟨c3, ⟨hl, ⟨_, _, rfl, ⟨Lst.nil _ _ _, (fun e => by cases e), by simp⟩⟩, Good.nil, hH.old, hb3⟩⟩
            clear hH hL hA
            go_wp2_with fail
            go_at_call 13; refine T.out.mono ?_; rintro e w3 ⟨rfl, h3, s3⟩
            obtain ⟨r1, r2⟩ := R.out w3 h3 s3
            obtain ⟨LN, LS, NX⟩ := tail (k := k) r2 l1 l2
            clear R h3 s3 r2 T e0 e1 ez cx
            go_wp2_with (first
              | (go_at_call 16; refine LN.out.mono ?_; rintro e w5 ⟨rfl, rfl⟩)
              | (go_at_call 18; refine LS.out.mono ?_; rintro e w5 ⟨ao5, cp5, rfl, hg5, SM⟩)
              | (go_at_call 17; refine SM.out.mono ?_; rintro e w6 ⟨rfl, hg6⟩; have NX' := Lib.hid (NX.out _ (fresh_trans hg5 hg6))))
            go_roundg (300 - (k + 1))
            case measure => omega
            case rel => exact NX'.out
          · have R : Hid (∀ w3, Line w3 b (· ≠ b) xs → Same (· ≠ b) W w3 → w3.cell? ⟨b2, o2, none⟩ = some (.int .i64 x) ∧ PlayH w b xs (.slice (some ⟨b2, o2 + 1, none⟩) xs.length (cap5 - 1)) w3) := fun w3 hl hs => by
              have hb3 : Below w.heap.size w w3 := hH.below.trans (near hs hH.old hH.below.size)
              have hd := hL.same hs
              refine ⟨?_, ⟨hl, ⟨_, _, rfl, ⟨?_, (fun e => by cases e), ?_⟩⟩, hH.good.tail, hH.old, hb3⟩⟩
              · obtain ⟨b3, o3, e3, _, _, c3⟩ := hd.lst 0 x rfl
                cases e3
                exact c3
              · intro j y hj
                obtain ⟨b3, o3, e3, g1, g2, c3⟩ := hd.lst (j + 1) y (by simpa using hj)
                cases e3
                exact ⟨b2, o2 + 1, rfl, g1, g2, by rw [show o2 + 1 + j = o2 + (j + 1) by omega]; exact c3⟩
              · simp at hcap; omega
            simp only [List.length_cons] at hcap
            clear hH hL hA
            go_wp2_with fail
            go_at_call 13; refine T.out.mono ?_; rintro e w3 ⟨rfl, h3, s3⟩
            obtain ⟨r1, r2⟩ := R.out w3 h3 s3
            obtain ⟨LN, LS, NX⟩ := tail (k := k) r2 l1 l2
            clear R h3 s3 r2 T e0 e1 ez cx
            generalize xs.length = xn at *
            go_wp2_with (first
              | (go_at_call 16; refine LN.out.mono ?_; rintro e w5 ⟨rfl, rfl⟩)
              | (go_at_call 18; refine LS.out.mono ?_; rintro e w5 ⟨ao5, cp5, rfl, hg5, SM⟩)
              | (go_at_call 17; refine SM.out.mono ?_; rintro e w6 ⟨rfl, hg6⟩; have NX' := Lib.hid (NX.out _ (fresh_trans hg5 hg6))))
            go_roundg (300 - (k + 1))
            case measure => omega
            case rel => exact NX'.out
      · have d1' : (kd == 1) = false := by simpa using d1
        have P := Lib.hid (drop W b (· ≠ b) xs p hH.line)
        have R : Hid (∀ w3, Line w3 b (· ≠ b) (xs.erase p) → Same (· ≠ b) W w3 → Calls Try.prog 15 #[.slice v5 xs.length cap5, .int .i64 p] w3 (fun e w4 => ∃ ao cp, e = .returned (.tuple #[.slice ao (xs.erase p).length cp, .bool (decide (p ∈ xs))]) ∧ PlayH w b (xs.erase p) (.slice ao (xs.erase p).length cp) w4 ∧ Below w3.heap.size w3 w4)) := fun w3 hl hs => by
          have hE := refDrop (b + 1) v5 cap5 xs p w3 (hL.same hs) hH.line.few (by have := hl.lt; omega)
          rw [← erase_filter hH.good.once p] at hE
          refine hE.mono ?_
          rintro e w4 ⟨ao, cp, rfl, hd, hg⟩
          have hb3 : Below w.heap.size w w3 := hH.below.trans (near hs hH.old hH.below.size)
          exact ⟨ao, cp, rfl, ⟨hl.fresh hg, ⟨ao, cp, rfl, hd⟩, hH.good.erase p, hH.old, hb3.trans (hg.mono hb3.size)⟩, hg⟩
        have BX : Hid (∀ w3, Same (· ≠ b) W w3 → w3.heap[D]? = some (.cells #[.int .i64 kd, .int .i64 p] 28 (0, 0))) := fun w3 hs => (hs.block D hD).trans hA
        clear hH hL
        generalize hy : xs.erase p = ys at *
        generalize decide (p ∈ xs) = m at *
        generalize xs.length = xn at *
        go_wp2_with fail
        go_at_call 14; refine P.out.mono ?_; rintro e w3 ⟨rfl, h3, s3⟩
        obtain ⟨f0, f1, fz⟩ := two (BX.out w3 s3)
        replace R := Lib.hid (R.out w3 h3 s3)
        clear P BX h3 s3 e0 e1 ez hA
        go_wp2_with fail
        go_at_call 15; refine R.out.mono ?_; rintro e w4 ⟨ao, cp, rfl, h4, g4⟩
        obtain ⟨LN, LS, NX⟩ := tail (k := k) h4 l1 l2
        have hyl : ys.length ≤ 64 := h4.line.few
        clear R h4 g4 f0 f1 fz hy
        generalize ys.length = yn at *
        cases m
        all_goals
          go_wp2_with (first
            | (go_at_call 16; refine LN.out.mono ?_; rintro e w5 ⟨rfl, rfl⟩)
            | (go_at_call 18; refine LS.out.mono ?_; rintro e w5 ⟨ao5, cp5, rfl, hg5, SM⟩)
            | (go_at_call 17; refine SM.out.mono ?_; rintro e w6 ⟨rfl, hg6⟩; have NX' := Lib.hid (NX.out _ (fresh_trans hg5 hg6))))
          go_roundg (300 - (k + 1))
          case measure => omega
          case rel => exact NX'.out
    · have hd : ¬ (k : Int) < n ∨ ((k : Int) < n ∧ ¬ (k : Int) < 300) := by omega
      have hbel := Lib.hid hH.below
      clear hH CA hlt
      rcases hd with q1 | ⟨q1, q2⟩
      all_goals
        go_wp2_with fail
        go_ret
        exact yes_of rfl hbel.out
end Go.Proofs.Ythphileaaoeamaa.Fifo
