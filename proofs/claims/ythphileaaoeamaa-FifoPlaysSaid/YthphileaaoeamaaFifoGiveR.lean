/- What Give of the document's answer for package fifo tells; whether two lists are the same; that the package works at all. Conditions: each number is one of its kind, and 300 are in need at most. -/
import Derived.Test.YthphileaaoeamaaFifoGive
namespace Go.Proofs.Ythphileaaoeamaa.Fifo
open Go.ChangeShapes Go.WideShapes Go.ChangeAt Go.RowKit Mem
set_option linter.unusedVariables false
set_option linter.unusedSimpArgs false
set_option maxRecDepth 100000

def Yes (w : World) (e : Ending) (w' : World) : Prop := e = .returned (.bool true) ∧ Below w.heap.size w w'
theorem yes_of {b : Bool} {w w' : World} (h : b = true) (g : Below w.heap.size w w') : Yes w (.returned (.bool b)) w' := by subst h; exact ⟨rfl, g⟩

def SameI (n : Nat) (w : World) (t : Value) (wr : World) : Prop := ∃ k : Nat, k ≤ n ∧ t = .int .i64 k ∧ Below w.heap.size w wr
theorem nums (a b : Option Addr) (n c d : Nat) (y z : Nat → Int) (w : World) (hn : n ≤ 9223372036854775807) (HA : Hid (Lies a n y w)) (HB : Hid (Lies b n z w)) (HE : Hid (∀ j, j < n → y j = z j)) :
    Calls Try.prog 21 #[.slice a n c, .slice b n d] w (Yes w) := by
  go_enter Try.func21, Try.ntmps21
  go_wp2
  go_loopw [5] (fun t5 wr => SameI n w t5 wr) (fun i _ => n - (intOf i).toNat)
  case atStart => exact ⟨0, by omega, rfl, Below.refl _ _⟩
  case round =>
    obtain ⟨k, hk, rfl, hb⟩ := hrel
    by_cases hlt : k < n
    · have h3 : (k : Int) < n := by omega
      obtain ⟨b1, o1, rfl, hb1, c1⟩ := HA.out k hlt
      obtain ⟨b2, o2, rfl, hb2, c2⟩ := HB.out k hlt
      replace c1 := (hb.cell (p := ⟨b1, o1 + k, none⟩) hb1).trans c1
      replace c2 := (hb.cell (p := ⟨b2, o2 + k, none⟩) hb2).trans c2
      rw [HE.out k hlt] at c1
      generalize z k = x at *
      have NX := Lib.hid (fun m => (⟨k + 1, by omega, by go_num, hb.trans ((drawn wr m).mono hb.size)⟩ : SameI n w (.int .i64 ((k : Int) + 1)) (wr.drewN m)))
      go_wp2_with fail
      go_quiet (fail)
      go_wp2_with fail
      go_roundw
      case rel => exact NX.out _
      case measure => simp [intOf]; omega
    · have h3 : ¬ (k : Int) < n := by omega
      obtain rfl : k = n := by omega
      go_wp2_with fail
      go_ret
      exact ⟨rfl, hb⟩

theorem part_of (n p s : Int) : (p ≤ 0 → part n p s = 0) ∧ (0 < p → p < (if n ≤ 0 ∨ s < 1 then 0 else whole n s) → part n p s = p) ∧ (0 < p → (if n ≤ 0 ∨ s < 1 then 0 else whole n s) ≤ p → part n p s = (if n ≤ 0 ∨ s < 1 then 0 else whole n s)) := by
  refine ⟨fun h => part_none (.inr (.inl h)), fun h => ?_, fun h => ?_⟩
  · split
    · omega
    · rw [part_some (by omega) (by omega) (by omega)]; omega
  · split
    · intro _; exact part_none (by omega)
    · rw [part_some (by omega) (by omega) (by omega)]; omega
set_option maxHeartbeats 2000000 in
theorem refGives (v : Option Addr) (n cap : Nat) (z : Nat → Int) (p s : Int) (w : World) (hp : I64 p) (hs : I64 s) (hn : n ≤ 300) (HZ : Hid (∀ j, j < n → I64 (z j))) (HC : Hid (Lies v n z w)) :
    Calls Try.prog 20 #[.slice v n cap, .int .i64 p, .int .i64 s] w (Given n z p s w) := by
  obtain ⟨i0, hi, hz0, hz1, hz2⟩ := info_parts infoL
  have hni : (n : Int) ≤ 300 := by omega
  go_enter Try.func20, Try.ntmps20
  go_wp2
  go_loopg [1, 8, 9] n (fun lf pv t u wr => GiveI n z p s w lf t u pv wr)
  case atStart => exact ⟨0, by omega, rfl, rfl, rfl, World.ownsRow_nil _ _ _ _, Below.refl _ _⟩
  case round =>
    obtain ⟨k, hk, rfl, rfl, rfl, hown, hb⟩ := hrel
    by_cases hlt : k < n
    · have h3 : (k : Int) < n := by omega
      obtain ⟨b, o, rfl, hbl, hc⟩ := HC.out k hlt
      replace hc := (hb.cell hbl).trans hc
      have hl0 := left_i64 (s := s) hp k (fun j hj => HZ.out j (by omega))
      have WA := Lib.hid (fun w => wants (z k) s w (HZ.out k hlt) hs)
      obtain ⟨pa, pb⟩ := part_i64 (s := s) (HZ.out k hlt) hl0
      obtain ⟨r1, r2, r3⟩ := part_of (z k) (left z p s k) s
      have HF := Lib.hid (fun (v' : Value) (w2 : World) (hh : w2.ownsRow w.heap.size 2 1 v' (k + 1) (us (got z p s) k ++ [.int .i64 (part (z k) (left z p s k) s)])) (g : Below w.heap.size w w2) => (show GiveI n z p s w (n - (k + 1)) v' (.int .i64 ((k : Int) + 1)) (.int .i64 (left z p s k - part (z k) (left z p s k) s)) w2 from ⟨k + 1, by omega, rfl, by go_num, rfl, by rw [us_succ]; exact hh, g⟩))
      have hl := us_length (got z p s) k
      generalize us (got z p s) k = U at *
      generalize part (z k) (left z p s k) s = x at *
      generalize left z p s k = q at *
      generalize (if z k ≤ 0 ∨ s < 1 then 0 else whole (z k) s) = y at *
      generalize z k = zk at *
      unfold I64 at pa pb hl0
      have hzr := hb.size
      clear hbl
      by_cases hq : q ≤ 0
      · obtain rfl : x = 0 := r1 hq
        clear r1 r2 r3
        go_wp2_with (first
          | (go_at_call 26; refine (WA.out _).mono ?_; rintro e w3 ⟨rfl, rfl⟩)
          | (at_builtin; refine wpList_append_own _ rfl (.tmp 29) (.tmp 31) 38 rfl w.heap.size 2 i0 _ 1 8 Try.underlying38 hi hz0 hz1 hz2 rfl (by decide) _ _ _ rfl (hown.alloc _) ⟨w3.heap.size, 0, none⟩ 1 1 [.int .i64 0] rfl rfl (World.news_of_block (heap_alloc_new w3 _)) (by simp [Value.oneCell']) (by simp only [maxLen]; omega) (by omega) (by simp; omega) ?_; intro v' w4 hown4 hgrow4 _; have hb4 := (hb.alloc hzr _).grown hgrow4 (by simp; omega) (fun j hj => (hown.lt j hj).1)))
        go_roundg (n - (k + 1))
        case measure => omega
        case rel => have h := HF.out _ _ hown4 hb4; rw [Int.sub_zero] at h; exact h
      by_cases hy : q < y
      · obtain rfl : x = q := r2 (by omega) hy
        clear r1 r2 r3
        go_wp2_with (first
          | (go_at_call 26; refine (WA.out _).mono ?_; rintro e w3 ⟨rfl, rfl⟩)
          | (at_builtin; refine wpList_append_own _ rfl (.tmp 29) (.tmp 31) 38 rfl w.heap.size 2 i0 _ 1 8 Try.underlying38 hi hz0 hz1 hz2 rfl (by decide) _ _ _ rfl (hown.alloc _) ⟨w3.heap.size, 0, none⟩ 1 1 [.int .i64 x] rfl rfl (World.news_of_block (heap_alloc_new w3 _)) (by simp [Value.oneCell']) (by simp only [maxLen]; omega) (by omega) (by simp; omega) ?_; intro v' w4 hown4 hgrow4 _; have hb4 := (hb.alloc hzr _).grown hgrow4 (by simp; omega) (fun j hj => (hown.lt j hj).1)))
        go_roundg (n - (k + 1))
        case measure => omega
        case rel => have h := HF.out _ _ hown4 hb4; rw [Int.sub_self] at h; exact h
      · obtain rfl : x = y := r3 (by omega) (by omega)
        clear r1 r2 r3
        go_wp2_with (first
          | (go_at_call 26; refine (WA.out _).mono ?_; rintro e w3 ⟨rfl, rfl⟩)
          | (at_builtin; refine wpList_append_own _ rfl (.tmp 29) (.tmp 31) 38 rfl w.heap.size 2 i0 _ 1 8 Try.underlying38 hi hz0 hz1 hz2 rfl (by decide) _ _ _ rfl (hown.alloc _) ⟨w3.heap.size, 0, none⟩ 1 1 [.int .i64 x] rfl rfl (World.news_of_block (heap_alloc_new w3 _)) (by simp [Value.oneCell']) (by simp only [maxLen]; omega) (by omega) (by simp; omega) ?_; intro v' w4 hown4 hgrow4 _; have hb4 := (hb.alloc hzr _).grown hgrow4 (by simp; omega) (fun j hj => (hown.lt j hj).1)))
        go_roundg (n - (k + 1))
        case measure => omega
        case rel => exact HF.out _ _ hown4 hb4
    · have h3 : ¬ (k : Int) < n := by omega
      obtain rfl : k = n := by omega
      obtain ⟨ao, cp, rfl, hl⟩ := lies_own hown
      have HL := Lib.hid hl
      clear hown hl
      go_wp2_with fail
      go_ret2
      exact ⟨ao, cp, rfl, HL.out, hb⟩

/-- Who needs 3, and who needs 5. -/
def eg (j : Nat) : Int := if j = 0 then 3 else 5
def egG (j : Nat) : Int := if j = 0 then 4 else 6
theorem eg_got : ∀ j, j < 2 → got eg 10 4 j = egG j := by
  intro j hj
  rcases (show j = 0 ∨ j = 1 by omega) with rfl | rfl <;> rfl
theorem eg_left : left eg 10 4 2 = 0 := by rfl
theorem two_lies {w : World} {b : Nat} {z : Nat → Int} {t : TypeId} (hb : w.heap[b]? = some (.cells #[.int .i64 (z 0), .int .i64 (z 1)] t (0, 0))) : Lies (some ⟨b, 0, none⟩) 2 z w := by
  intro j hj
  obtain ⟨c0, c1, _⟩ := two hb
  refine ⟨b, 0, rfl, lt_of hb, ?_⟩
  rcases (show j = 0 ∨ j = 1 by omega) with rfl | rfl
  · simpa using c0
  · simpa using c1
theorem may7 : may [] 7 = true ∧ putL [] 7 = [7] ∧ may [7] 7 = false ∧ putL [7] 7 = [7] := by decide
theorem near {b : Nat} {w w' : World} {n : Nat} (h : Same (· ≠ b) w w') (hb : n ≤ b) (hn : n ≤ w.heap.size) : Below n w w' :=
  ⟨h.os, h.tape, h.output, h.size, fun k hk => h.block k (by omega)⟩
theorem Line.away {w : World} {b : Nat} {O : Nat → Prop} {xs : List Int} (h : Line w b O xs) : Line w b (· ≠ b) xs := by
  obtain ⟨r, f, h, ha⟩ := h
  exact ⟨r, f, ⟨h.blk, by simp, h.len, h.fst, h.cnt⟩, ha⟩
theorem Lies.same {v : Option Addr} {n : Nat} {z : Nat → Int} {O : Nat → Prop} {w w' : World} (h : Lies v n z w) (hs : Same O w w') (hO : ∀ k off, v = some ⟨k, off, none⟩ → 0 < n → O k) : Lies v n z w' := by
  intro j hj
  obtain ⟨b, o, e, hb, hc⟩ := h j hj
  exact ⟨b, o, e, Nat.lt_of_lt_of_le hb hs.size, (World.cell?_of_block (hs.block b (hO b o e (by omega)))).trans hc⟩
theorem Lies.old {v : Option Addr} {n : Nat} {z : Nat → Int} {w : World} (h : Lies v n z w) : ∀ k off, v = some ⟨k, off, none⟩ → 0 < n → k ≠ w.heap.size := by
  intro k off e hn
  obtain ⟨b, o, e2, hb, _⟩ := h 0 hn
  rw [e] at e2
  cases e2
  omega
set_option maxHeartbeats 1000000 in
theorem shown (w : World) : Calls Try.prog 9 #[] w (Yes w) := by
  have h0 := heap_alloc_new w (.cells #[.int .i64 3, .int .i64 5] 2)
  have h1 := alloc1 w (.cells #[.int .i64 3, .int .i64 5] 2)
  have G := Lib.hid (gives (some ⟨w.heap.size, 0, none⟩) 2 2 eg 10 4 (w.alloc (.cells #[.int .i64 3, .int .i64 5] 2)) (by unfold I64; omega) (by unfold I64; omega) (by omega) (Lib.hid (fun j hj => by unfold eg I64; split <;> omega)) (Lib.hid (two_lies (z := eg) h0)))
  unfold Given at G
  rw [eg_left] at G
  obtain ⟨m1, m2, m3, m4⟩ := may7
  have P1 := Lib.hid (fun w b (h : Line w b (· ≠ b) []) => put w b (· ≠ b) [] 7 h)
  have P2 := Lib.hid (fun w b (h : Line w b (· ≠ b) [7]) => put w b (· ≠ b) [7] 7 h)
  rw [m1, m2] at P1
  rw [m3, m4] at P2
  have T1 := Lib.hid (fun w b (h : Line w b (· ≠ b) [7]) => take w b (· ≠ b) 7 [] h)
  clear h0 m1 m2 m3 m4
  go_enter Try.func9, Try.ntmps9
  go_wp2_with fail
  generalize w.alloc (.cells #[.int .i64 3, .int .i64 5] 2) = W at *
  go_at_call 19; refine G.out.mono ?_; rintro e w1 ⟨ao, cp, rfl, hl, hg⟩
  have ho := Lib.hid hl.old
  replace hl := Lib.hid hl
  replace hg := h1.trans (hg.mono h1.size)
  clear G h1
  go_wp2_with fail
  go_at_call 10; refine (new _).mono ?_; rintro e w2 ⟨rfl, h2, g2⟩
  replace hl := Lib.hid (hl.out.fresh g2)
  have hgb := hg.size
  replace hg := hg.trans (g2.mono hg.size)
  replace h2 := h2.away
  generalize w1.heap.size = b at *
  go_wp2_with fail
  go_at_call 11; refine (P1.out _ _ h2).mono ?_; rintro e w3 ⟨rfl, h3, s3⟩
  go_wp2_with fail
  go_at_call 11; refine (P2.out _ _ h3).mono ?_; rintro e w4 ⟨rfl, h4, s4⟩
  go_wp2_with fail
  go_at_call 13; refine (T1.out _ _ h4).mono ?_; rintro e w5 ⟨rfl, h5, s5⟩
  have ss := (s3.trans s4).trans s5
  have hgF := Lib.hid (hg.trans (near ss hgb hg.size))
  have hl5 := hl.out.same ss ho.out
  have hx := heap_alloc_new w5 (.cells #[.int .i64 4, .int .i64 6] 2)
  have hx1 := alloc1 w5 (.cells #[.int .i64 4, .int .i64 6] 2)
  have N := Lib.hid (nums ao (some ⟨w5.heap.size, 0, none⟩) 2 cp 2 (got eg 10 4) egG (w5.alloc (.cells #[.int .i64 4, .int .i64 6] 2)) (by omega) (Lib.hid (hl5.fresh hx1)) (Lib.hid (two_lies (z := egG) hx)) (Lib.hid eg_got))
  have hgE := Lib.hid (hgF.out.trans (hx1.mono (by have := hgF.out.size; exact this)))
  clear P1 P2 T1 h2 h3 h4 h5 s3 s4 s5 ss hl5 hx hx1 hl ho hg hgb hgF
  go_wp2_with fail
  go_at_call 21; refine N.out.mono ?_; rintro e w6 ⟨rfl, g6⟩
  go_wp2_with fail
  go_ret
  exact yes_of (by simp) (hgE.out.trans (g6.mono hgE.out.size))
end Go.Proofs.Ythphileaaoeamaa.Fifo
