/- Whether a number is in a list; the walk of FifoTurns. Conditions: each argument is a number of its kind. -/
import Derived.Test.YthphileaaoeamaaFifoGiveR
namespace Go.Proofs.Ythphileaaoeamaa.Fifo
open Go.ChangeShapes Go.WideShapes Go.ChangeAt Go.RowKit Mem
set_option linter.unusedVariables false
set_option linter.unusedSimpArgs false
set_option maxRecDepth 100000

theorem Line.on {w w' : World} {b : Nat} {O : Nat → Prop} {xs : List Int} (h : Line w b O xs) (hb : w'.heap[b]? = w.heap[b]?) : Line w' b O xs := by
  obtain ⟨r, f, h, ha⟩ := h
  exact ⟨r, f, ⟨hb.trans h.blk, h.out, h.len, h.fst, h.cnt⟩, ha⟩
def HasI (xs : List Int) (p : Int) (w : World) (left : Nat) (t : Value) (wr : World) : Prop := ∃ k : Nat, k ≤ xs.length ∧ left = xs.length - k ∧ t = .int .i64 k ∧ wr = w ∧ Hid (∀ j, j < k → xs[j]? ≠ some p)
theorem has (B : Nat) (v : Option Addr) (cap : Nat) (xs : List Int) (p : Int) (w : World) (hl : xs.length ≤ 1000000) (h : Lst B v xs w) :
    Calls Try.prog 22 #[.slice v xs.length cap, .int .i64 p] w (Still (.bool (decide (p ∈ xs))) w) := by
  obtain ⟨n, hn⟩ : ∃ n, xs.length = n := ⟨_, rfl⟩
  rw [hn]
  rw [hn] at hl
  have hli : (n : Int) ≤ 1000000 := by omega
  have H := Lib.hid h
  clear h
  go_enter Try.func22, Try.ntmps22
  go_wp2_with fail
  go_loopg [5] n (fun left t wr => HasI xs p w left t wr)
  case atStart => exact ⟨0, by omega, by omega, rfl, rfl, Lib.hid (fun j hj => by omega)⟩
  case round =>
    obtain ⟨k, hk, rfl, rfl, rfl, hb⟩ := hrel
    by_cases hlt : k < n
    · have q1 : (k : Int) < n := by omega
      obtain ⟨x, hx1⟩ : ∃ x, xs[k]? = some x := ⟨_, List.getElem?_eq_getElem (by omega)⟩
      obtain ⟨b1, o1, rfl, _, hb1, c1⟩ := H.out k x hx1
      have NX := Lib.hid (show x ≠ p → HasI xs p wr (n - (k + 1)) (.int .i64 ((k : Int) + 1)) wr from fun hne => ⟨k + 1, by omega, by omega, by go_num, rfl, Lib.hid (fun j hj => by
        rcases Nat.lt_succ_iff_lt_or_eq.1 hj with h1 | rfl
        · exact hb.out j h1
        · rw [hx1]; simpa using hne)⟩)
      have FD := Lib.hid (show x = p → decide (p ∈ xs) = true from fun he => by rw [decide_eq_true_eq, ← he]; exact List.mem_of_getElem? hx1)
      clear H hb hx1
      by_cases hp : x = p
      · have FD' := Lib.hid (FD.out hp)
        subst hp
        go_wp2_with fail
        go_ret
        exact ⟨by rw [FD'.out]; rfl, rfl⟩
      · have hp' : (x == p) = false := by simpa using hp
        have NX' := Lib.hid (NX.out hp)
        go_wp2_with fail
        go_roundg (n - (k + 1))
        case measure => omega
        case rel => exact NX'.out
    · obtain rfl : k = n := by omega
      have q1 : ¬ (k : Int) < k := by omega
      have E := Lib.hid (show decide (p ∈ xs) = false by rw [decide_eq_false_iff_not]; exact not_in (fun j hj => hb.out j (by omega)))
      clear hb H
      go_wp2_with fail
      go_ret
      exact ⟨by rw [E.out]; rfl, rfl⟩

/-- A slice of small numbers. -/
def Lies8 (v : Option Addr) (len : Nat) (z : Nat → Int) (w : World) : Prop := ∀ j, j < len → ∃ b off, v = some ⟨b, off, none⟩ ∧ b < w.heap.size ∧ w.cell? ⟨b, off + j, none⟩ = some (.int .u8 (z j))
theorem Lies8.fresh {v : Option Addr} {len : Nat} {z : Nat → Int} {w w' : World} {B : Nat} (h : Lies8 v len z w) (hB : B = w.heap.size) (hg : Below B w w') : Lies8 v len z w' := by
  subst hB
  intro j hj
  obtain ⟨b, o, e, hb, hc⟩ := h j hj
  exact ⟨b, o, e, by have := hg.size; omega, (hg.cell hb).trans hc⟩
theorem lst_of {w : World} {B n : Nat} {e : TypeId} {ao : Option Addr} {cap : Nat} {xs : List Int} (h : w.ownsRow B e 1 (.slice ao n cap) n (cL xs)) : Lst B ao xs w := by
  obtain ⟨ao', cap', e1, hl⟩ := lst_row h
  cases e1
  exact hl
theorem own_same {w w' : World} {b n : Nat} {e : TypeId} {u : Value} {l : List Value} (h : w.ownsRow (b + 1) e 1 u n l) (hs : Same (· ≠ b) w w') : w'.ownsRow (b + 1) e 1 u n l :=
  owns_same h hs fun k hk => by have := (h.lt k hk).1; show k ≠ b; omega
theorem Line.grown {w w' : World} {b n : Nat} {O : Nat → Prop} {xs : List Int} {o : Obj} {u : Value} {e : TypeId} {l : List Value} (h : Line w b O xs) (hown : w.ownsRow (b + 1) e 1 u n l) (hg : (w.alloc o).grownBy w' u.ownBlock) : Line w' b O xs :=
  h.on (by rw [hg.block b (by simp; have := h.lt; omega) (fun e => by have := (hown.lt b e.symm).1; omega), Below.heap_alloc _ _ _ h.lt])
/-- A line of xs, and the row of them beside it. -/
structure TurnH (w : World) (b : Nat) (xs : List Int) (u : Value) (wr : World) : Prop where
  line : Line wr b (· ≠ b) xs
  own : wr.ownsRow (b + 1) 3 1 u xs.length (cL xs)
  good : Good xs
  old : w.heap.size ≤ b
  below : Below w.heap.size w wr
theorem TurnH.same {w : World} {b : Nat} {xs ys : List Int} {u : Value} {wr w' : World} (h : TurnH w b xs u wr) (hs : Same (· ≠ b) wr w') (hl : Line w' b (· ≠ b) ys) : Line w' b (· ≠ b) ys ∧ w'.ownsRow (b + 1) 3 1 u xs.length (cL xs) ∧ Below w.heap.size w w' :=
  ⟨hl, own_same h.own hs, h.below.trans (near hs h.old h.below.size)⟩
def TurnI (w : World) (b n : Nat) (left : Nat) (u t : Value) (wr : World) : Prop :=
  ∃ (k : Nat) (xs : List Int), k ≤ n ∧ k ≤ 64 ∧ left = 64 - k ∧ t = .int .i64 k ∧ xs.length ≤ k ∧ TurnH w b xs u wr
def TakeI (w2 : World) (b : Nat) (xs : List Int) (left : Nat) (t : Value) (wr : World) : Prop :=
  ∃ k : Nat, k ≤ xs.length ∧ left = xs.length - k ∧ t = .int .i64 k ∧ Line wr b (· ≠ b) (xs.drop k) ∧ Same (· ≠ b) w2 wr
set_option maxHeartbeats 4000000 in
theorem turnsLaw (v : Option Addr) (n cap : Nat) (z : Nat → Int) (w : World) (hn : n ≤ 9223372036854775807) (hz : ∀ j, j < n → 0 ≤ z j ∧ z j ≤ 255) (hc : Lies8 v n z w) :
    Calls Try.prog 5 #[.slice v n cap] w (Yes w) := by
  have S := Lib.hid (fun w => shown w)
  have hg := Below.refl w.heap.size w
  obtain ⟨i0, hi, hz0, hz1, hz2⟩ := info_parts infoI
  have CA := Lib.hid (fun w1 (h : Below w.heap.size w w1) => hc.fresh rfl h)
  have Z := Lib.hid hz
  clear hz hc
  go_enter Try.func5, Try.ntmps5
  go_wp2_with (first
    | (go_at_call 9; refine (S.out _).mono ?_; rintro e w' ⟨rfl, hg1⟩; replace hg := fresh_trans hg hg1; clear hg1)
    | (go_at_call 10; refine (new _).mono ?_; rintro e w2 ⟨rfl, h2, g2⟩))
  have H0 : TurnI w w'.heap.size n 64 (.slice none 0 0) (.int .i64 0) w2 := ⟨0, [], by omega, by omega, rfl, rfl, by simp, ⟨h2.away, World.ownsRow_nil _ _ _ _, Good.nil, hg.size, hg.trans (g2.mono hg.size)⟩⟩
  replace H0 := Lib.hid H0
  clear S h2 g2 hg
  generalize w'.heap.size = b at *
  go_loopg [5, 6] 64 (fun left u t wr => TurnI w b n left u t wr)
  case atStart => exact H0.out
  case round =>
    clear H0
    obtain ⟨k, xs, hk, hk64, rfl, rfl, hxk, hT⟩ := hrel
    obtain ⟨ao, cp, rfl⟩ := owns_shape hT.own
    by_cases hlt : k < n ∧ k < 64
    · obtain ⟨l1, l2⟩ := hlt
      have q1 : (k : Int) < n := by omega
      have q2 : (k : Int) < 64 := by omega
      have CZ := CA.out _ hT.below
      obtain ⟨b1, o1, rfl, hb1, c1⟩ := CZ k l1
      obtain ⟨z0, z1⟩ := Z.out k l1
      have P := Lib.hid (put wr b (· ≠ b) xs (z k) hT.line)
      have hm : may xs (z k) = !decide (z k ∈ xs) := by
        have a1 : decide (z k < 0) = false := by simp; omega
        have a2 : decide (64 ≤ xs.length) = false := by simp; omega
        simp [may, a1, a2]
      rw [hm] at P
      have hw1 : IntKind.i64.wrap (z k) = z k := by rw [IntKind.wrap_i64]; omega
      have HA := Lib.hid (fun (w' : World) (hs : Same (· ≠ b) wr w') => has (b + 1) ao cp xs (z k) w' (by omega) (lst_of (own_same hT.own hs)))
      have C1 : Hid (∀ w', Same (· ≠ b) wr w' → Below w.heap.size w w') := fun w' hs => hT.below.trans (near hs hT.old hT.below.size)
      have CK := Lib.hid (fun w' (hs : Same (· ≠ b) wr w') => CA.out _ (C1.out w' hs) k l1)
      clear CA
      by_cases hin : z k ∈ xs
      · rw [show putL xs (z k) = xs by simp [putL, hm, hin]] at P
        simp only [hin, decide_true, Bool.not_true] at P HA
        have NX : Hid (∀ w', Line w' b (· ≠ b) xs → Same (· ≠ b) wr w' → TurnI w b n (64 - (k + 1)) (.slice ao xs.length cp) (.int .i64 ((k : Int) + 1)) w') := fun w' hl hs =>
          ⟨k + 1, xs, by omega, by omega, rfl, by go_num, by omega, ⟨hl, own_same hT.own hs, hT.good, hT.old, C1.out w' hs⟩⟩
        clear hT Z CZ C1
        generalize z k = x at *
        go_wp2_with fail
        go_at_call 11; refine P.out.mono ?_; rintro e w3 ⟨rfl, h3, s3⟩
        obtain ⟨b1', o1', e1, hb3, c3⟩ := CK.out w3 s3
        cases e1
        have NX' := Lib.hid (NX.out w3 h3 s3)
        have HA' := Lib.hid (HA.out w3 s3)
        clear NX HA CK P h3 s3 c1
        go_wp2_with (go_at_call 22; refine HA'.out.mono ?_; rintro e w4 ⟨rfl, rfl⟩)
        go_roundg (64 - (k + 1))
        case measure => omega
        case rel => exact NX'.out
      · rw [show putL xs (z k) = xs ++ [z k] by simp [putL, hm, hin]] at P
        simp only [hin, decide_false, Bool.not_false] at P HA
        have NX : Hid (∀ w3 o w4 u, Line w3 b (· ≠ b) (xs ++ [z k]) → Same (· ≠ b) wr w3 → w4.ownsRow (b + 1) 3 1 u (xs.length + 1) (cL xs ++ [.int .i64 (z k)]) → (w3.alloc o).grownBy w4 (Value.ownBlock (.slice ao xs.length cp)) → TurnI w b n (64 - (k + 1)) u (.int .i64 ((k : Int) + 1)) w4) := fun w3 o w4 u hl hs ho hg => by
          refine ⟨k + 1, xs ++ [z k], by omega, by omega, rfl, by go_num, by simp; omega, ⟨hl.grown (own_same hT.own hs) hg, ?_, ?_, hT.old, ?_⟩⟩
          · simpa [cL] using ho
          · have := hT.good.put (p := z k) (by omega)
            rwa [show putL xs (z k) = xs ++ [z k] by simp [putL, hm, hin]] at this
          · have h1 := C1.out w3 hs
            exact (h1.alloc h1.size o).grown hg (by simp; have := h1.size; omega) (fun j hj => by have := (hT.own.lt j hj).1; have := hT.old; omega)
        have hown := Lib.hid (fun w' (hs : Same (· ≠ b) wr w') => own_same hT.own hs)
        have hln : (cL xs).length = xs.length := cL_length xs
        have hxs : xs.length ≤ 64 := by omega
        have hbz := Lib.hid (fun w' (hs : Same (· ≠ b) wr w') => Nat.le_trans (Nat.succ_le_of_lt hT.line.lt) hs.size)
        clear hT Z CZ C1
        generalize z k = x at *
        generalize cL xs = U at *
        go_wp2_with fail
        go_at_call 11; refine P.out.mono ?_; rintro e w3 ⟨rfl, h3, s3⟩
        obtain ⟨b1', o1', e1, hb3, c3⟩ := CK.out w3 s3
        cases e1
        have NX' := Lib.hid (fun o w4 u => NX.out w3 o w4 u h3 s3)
        have HA' := Lib.hid (HA.out w3 s3)
        have hz3 := hbz.out w3 s3
        replace hown := hown.out w3 s3
        clear NX HA CK P h3 s3 c1 hbz
        go_wp2_with (first
          | (go_at_call 22; refine HA'.out.mono ?_; rintro e w4 ⟨rfl, rfl⟩)
          | (at_builtin; refine wpList_append_own _ rfl (.tmp 44) (.tmp 50) 26 rfl (b + 1) 3 i0 _ 1 8 Try.underlying26 hi hz0 hz1 hz2 rfl (by decide) _ _ _ rfl (hown.alloc _) ⟨w4.heap.size, 0, none⟩ 1 1 [.int .i64 x] rfl rfl (World.news_of_block (heap_alloc_new w4 _)) (by simp [Value.oneCell']) (by simp only [maxLen]; omega) (by omega) (by simp; omega) ?_; intro v' w5 hown4 hgrow4 _; have NX2 := Lib.hid (NX'.out _ _ _ hown4 hgrow4); clear hown4 hgrow4 hown NX'))
        go_roundg (64 - (k + 1))
        case measure => omega
        case rel => exact NX2.out
    · have hd : ¬ (k : Int) < n ∨ ((k : Int) < n ∧ ¬ (k : Int) < 64) := by omega
      have hL := hT.line
      have hW := lst_of hT.own
      have hold := hT.old
      have hbel := Lib.hid hT.below
      have hxl : (xs.length : Int) ≤ 64 := by have := hT.good.few; omega
      clear hT CA Z hlt
      obtain ⟨W1, hW1⟩ : ∃ W1, W1 = wr := ⟨_, rfl⟩
      rw [← hW1] at hL hW hbel
      have GB : Hid (∀ w', Same (· ≠ b) W1 w' → Below w.heap.size w w') := fun w' hs => hbel.out.trans (near hs hold hbel.out.size)
      have T0 : Hid (TakeI W1 b xs xs.length (.int .i64 0) W1) := ⟨0, by omega, by omega, rfl, hL, Same.refl _ _⟩
      clear hL hbel
      subst hW1
      rcases hd with q1 | ⟨q1, q2⟩
      all_goals
        go_wp2_with fail
        go_loopg [8] xs.length (fun left t wq => TakeI W1 b xs left t wq)
        case atStart => exact T0.out
        case round =>
          clear T0
          obtain ⟨j, hj, rfl, rfl, hl, hs⟩ := hrel
          by_cases hlt : j < xs.length
          · have h3 : (j : Int) < xs.length := by omega
            obtain ⟨x, hx⟩ : ∃ x, xs[j]? = some x := ⟨_, List.getElem?_eq_getElem hlt⟩
            obtain ⟨b2, o2, rfl, hB2, hb2, c2⟩ := hW j x hx
            have hdr : xs.drop j = x :: xs.drop (j + 1) := by
              rw [List.drop_eq_getElem_cons hlt]
              rw [List.getElem?_eq_getElem hlt] at hx
              cases hx; rfl
            rw [hdr] at hl
            have TK := Lib.hid (take wr b (· ≠ b) x (xs.drop (j + 1)) hl)
            have CW := Lib.hid (fun w' (hs' : Same (· ≠ b) wr w') => (show w'.cell? ⟨b2, o2 + j, none⟩ = some (.int .i64 x) from (World.cell?_of_block ((hs.trans hs').block b2 (by show b2 ≠ b; omega))).trans c2))
            have NX : Hid (∀ w' m, Line w' b (· ≠ b) (xs.drop (j + 1)) → Same (· ≠ b) wr w' → TakeI W1 b xs (xs.length - (j + 1)) (.int .i64 ((j : Int) + 1)) (w'.drewN m)) := fun w' m hl' hs' =>
              ⟨j + 1, by omega, rfl, by go_num, hl'.drewN m, (hs.trans hs').drewN m⟩
            clear hl hs c2 hW hx hdr GB
            generalize xs.drop (j + 1) = rest at *
            go_wp2_with fail
            go_at_call 13; refine TK.out.mono ?_; rintro e w3 ⟨rfl, h3', s3⟩
            have c3 := CW.out _ s3
            have NX' := Lib.hid (fun m => NX.out w3 m h3' s3)
            clear CW NX TK h3' s3
            go_wp2_with fail
            go_roundg (xs.length - (j + 1))
            case measure => omega
            case rel => exact NX'.out 0
          · have h3 : ¬ (j : Int) < xs.length := by omega
            obtain rfl : j = xs.length := by omega
            rw [List.drop_length] at hl
            have TN := Lib.hid (take_none wr b (· ≠ b) hl)
            obtain ⟨r, f, hP, _⟩ := hl
            have LN := Lib.hid (len wr b (· ≠ b) r f _ hP)
            have GF := Lib.hid (GB.out _ hs)
            clear hP hs GB hW
            go_wp2_with (first
              | (go_at_call 13; refine TN.out.mono ?_; rintro e w3 ⟨rfl, rfl⟩)
              | (go_at_call 16; refine LN.out.mono ?_; rintro e w3 ⟨rfl, rfl⟩))
            go_ret
            exact yes_of rfl GF.out
end Go.Proofs.Ythphileaaoeamaa.Fifo
