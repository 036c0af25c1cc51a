/- What the document's Set, part and Parse tell. Conditions: the text is of at most 2^47 - 4096 bytes. -/
import Derived.Test.YtikdhfedidknpaaDoorMaskRefS
namespace Go.Proofs.YtikdhfedidknpaaDoor.Mask
open Go.ChangeShapes Go.WideShapes Go.ChangeAt Go.RowKit
set_option linter.unusedVariables false
set_option linter.unusedSimpArgs false
set_option maxRecDepth 100000

/-- The sum of the powers from a to b, k places. -/
def sn (a b : Int) : Nat → Nat
  | 0 => 0
  | k + 1 => sn a b k + if a ≤ (k : Int) ∧ (k : Int) ≤ b then 2 ^ k else 0
theorem sn_lt (a b : Int) : ∀ k, sn a b k < 2 ^ k
  | 0 => by simp [sn]
  | k + 1 => by
    have := sn_lt a b k
    rw [Nat.pow_succ]
    unfold sn
    split <;> omega
theorem sn_row (a b : Nat) (h : a ≤ b) : ∀ k, sn a b k = 2 ^ min k (b + 1) - 2 ^ min a (min k (b + 1))
  | 0 => by simp [sn]
  | k + 1 => by
    unfold sn
    rw [sn_row a b h k]
    by_cases h1 : a ≤ k
    · by_cases h2 : k ≤ b
      · rw [if_pos (by omega), show min k (b + 1) = k by omega, show min (k + 1) (b + 1) = k + 1 by omega, show min a k = a by omega, show min a (k + 1) = a by omega, Nat.pow_succ]
        have : 2 ^ a ≤ 2 ^ k := Nat.pow_le_pow_right (by decide) h1
        omega
      · rw [if_neg (by omega), show min k (b + 1) = b + 1 by omega, show min (k + 1) (b + 1) = b + 1 by omega]
        rfl
    · rw [if_neg (by omega), show min a (min k (b + 1)) = min k (b + 1) by omega, show min a (min (k + 1) (b + 1)) = min (k + 1) (b + 1) by omega]
      omega
theorem sn_rw (a b : Nat) (h : a ≤ b) (hb : b < 64) : sn a b 64 = rw' a b := by
  rw [sn_row a b h, show min 64 (b + 1) = b + 1 by omega, show min a (b + 1) = a by omega]
  rfl

def SetI (a b : Int) (m o p : Value) : Prop := ∃ (k : Nat) (x y : Int), k ≤ 64 ∧ p = .int .i64 k ∧ m = .int .u64 x ∧ o = .int .u64 y ∧ (k < 64 → x + y < 18446744073709551616) ∧ 0 ≤ x ∧ x < 18446744073709551616 ∧ 0 ≤ y ∧ y < 18446744073709551616 ∧ Hid (x = (sn a b k : Nat) ∧ y = ((2 ^ k % 18446744073709551616 : Nat) : Int))

theorem SetI.mk (a b : Int) (k : Nat) (hk : k ≤ 64) : SetI a b (.int .u64 (sn a b k : Nat)) (.int .u64 ((2 ^ k % 18446744073709551616 : Nat) : Int)) (.int .i64 k) := by
  have h1 := sn_lt a b k
  have h2 : 2 ^ k ≤ 2 ^ 64 := Nat.pow_le_pow_right (by decide) hk
  have h3 : 2 ^ k % 18446744073709551616 < 18446744073709551616 := Nat.mod_lt _ (by decide)
  refine ⟨k, _, _, hk, rfl, rfl, rfl, fun h => ?_, by omega, by omega, by omega, by omega, Lib.hid ⟨rfl, rfl⟩⟩
  have h4 : 2 ^ (k + 1) ≤ 2 ^ 64 := Nat.pow_le_pow_right (by decide) h
  have h5 : 2 ^ k < 18446744073709551616 := Nat.pow_lt_pow_right (by decide) (show k < 64 from h)
  rw [Nat.mod_eq_of_lt h5]
  rw [Nat.pow_succ] at h4
  omega

theorem Set (a b : Int) (w : World) : Calls Tryd.prog 80 #[.int .i64 a, .int .i64 b] w (IsU (sn a b 64) w) := by
  go_enter Tryd.func80, Tryd.ntmps80
  go_wp2
  go_loop [5, 6, 7] (fun m o p => SetI a b m o p) (fun _ _ p => match p with | .int _ m => 64 - m.toNat | _ => 0)
  case atStart => exact SetI.mk a b 0 (by omega)
  case round =>
    obtain ⟨k, x, y, hk, rfl, rfl, rfl, h1, h2, h3, h4, h5, H⟩ := hrel
    by_cases hlt : k < 64
    · have hxy := h1 hlt
      have nx := SetI.mk a b (k + 1) hlt
      have e2 : IntKind.u64.wrap (2 * y) = ((2 ^ (k + 1) % 18446744073709551616 : Nat) : Int) := by
        rw [IntKind.wrap_u64, H.out.2, Nat.pow_succ]
        omega
      have e2' := Lib.hid e2
      by_cases hc : a ≤ (k : Int) ∧ (k : Int) ≤ b
      · have e1 : x + y = (sn a b (k + 1) : Nat) := by
          have h5 : 2 ^ k < 18446744073709551616 := Nat.pow_lt_pow_right (by decide) (show k < 64 from hlt)
          rw [H.out.1, H.out.2, Nat.mod_eq_of_lt h5, show sn a b (k + 1) = sn a b k + if a ≤ (k : Int) ∧ (k : Int) ≤ b then 2 ^ k else 0 from rfl, if_pos hc]
          simp
        have N := Lib.hid (And.intro e1 nx)
        obtain ⟨c1, c2⟩ := hc
        clear e1 nx e2 H
        go_wp2_with fail
        refine ⟨?_, by simp; omega⟩
        rw [N.out.1, e2'.out, show (k : Int) + 1 = ((k + 1 : Nat) : Int) by omega]
        exact N.out.2
      · have e1 : x = (sn a b (k + 1) : Nat) := by
          rw [H.out.1, show sn a b (k + 1) = sn a b k + if a ≤ (k : Int) ∧ (k : Int) ≤ b then 2 ^ k else 0 from rfl, if_neg hc]
          rfl
        have N := Lib.hid (And.intro e1 nx)
        clear e1 nx e2 H
        by_cases c1 : a ≤ (k : Int)
        · have c2 : ¬ (k : Int) ≤ b := fun h => hc ⟨c1, h⟩
          clear hc
          go_wp2_with fail
          refine ⟨?_, by simp; omega⟩
          rw [N.out.1, e2'.out, show (k : Int) + 1 = ((k + 1 : Nat) : Int) by omega]
          exact N.out.2
        · clear hc
          go_wp2_with fail
          refine ⟨?_, by simp; omega⟩
          rw [N.out.1, e2'.out, show (k : Int) + 1 = ((k + 1 : Nat) : Int) by omega]
          exact N.out.2
    · obtain rfl : k = 64 := by omega
      have e := H.out.1
      subst e
      clear H
      go_wp2_with fail
      go_ret
      exact ⟨rfl, rfl⟩
/-- A part's set, whether it is beyond, whether it is one. -/
def Part (o : Option (Nat × Nat)) (w : World) (e : Ending) (w' : World) : Prop :=
  ∃ S : Nat, e = .returned (.tuple #[.int .u64 S, .bool (match o with | some p => badP p | none => false), .bool o.isSome]) ∧ S < 18446744073709551616 ∧ (∀ p, o = some p → badP p = false → S = rw' p.1 p.2) ∧ Below w.heap.size w w'

theorem numb_le {x : List UInt8} {n : Nat} (h : numb x = some n) : n ≤ 99 := by
  match x, h with
  | [a], h =>
    simp only [numb] at h
    split at h
    · rename_i hd
      simp [isDig] at hd
      cases h
      omega
    · cases h
  | [a, b], h =>
    simp only [numb] at h
    split at h
    · rename_i hd
      simp [isDig] at hd
      cases h
      omega
    · cases h
  | [], h => cases h
  | _ :: _ :: _ :: _, h => simp [numb] at h

theorem sn64 (a b : Int) : sn a b 64 < 18446744073709551616 := sn_lt a b 64

theorem part_fin (n k : Nat) (w w' : World) (hb : Below w.heap.size w w') (z : Bool) (hz : z = badP (n, k)) : Part (some (n, k)) w (.returned (.tuple #[.int .u64 (sn n k 64 : Nat), .bool z, .bool true])) w' := by
  refine ⟨sn n k 64, by rw [hz]; rfl, sn64 _ _, fun p e hp => ?_, hb⟩
  cases e
  simp [badP] at hp
  exact sn_rw n k (by omega) (by omega)

theorem part_none (w w' : World) (hb : Below w.heap.size w w') : Part none w (.returned (.tuple #[.int .u64 0, .bool false, .bool false])) w' :=
  ⟨0, rfl, by decide, (by intro p e; cases e), hb⟩

theorem part_ (s : ByteArray) (l : List UInt8) (hl : l = s.data.toList) (hs : s.size ≤ 140737488351232) (w : World) : Calls Tryd.prog 64 #[.string s] w (Part (part l) w) := by
  have C := Lib.hid (split s l hl hs 45 45 rfl w)
  have hlen : l.length = s.size := by rw [hl]; simp
  have hla : (ahead 45 l).length ≤ l.length := by
    by_cases hf : found 45 l = true
    · have := congrArg List.length (split_found hf); simp at this; omega
    · rw [(split_none (by simpa using hf)).1]; exact Nat.le_refl _
  have hlb : (behind 45 l).length ≤ l.length := by
    by_cases hf : found 45 l = true
    · have := congrArg List.length (split_found hf); simp at this; omega
    · have hd : l.dropWhile (· != 45) = [] := by simpa [found] using hf
      unfold behind
      rw [hd]
      simp
  have sz : ∀ (a : ByteArray) (x : List UInt8), a.data.toList = x → x.length ≤ l.length → a.size ≤ 140737488351232 := by
    intro a x h1 h2
    have : a.size = x.length := by rw [← h1]; simp
    omega
  have NA : Hid (∀ (a : ByteArray), a.data.toList = ahead 45 l → ∀ w, Calls Tryd.prog 79 #[.string a] w (Num (numb (ahead 45 l)) w)) := Lib.hid (fun a h w => number a _ h.symm (sz a _ h hla) w)
  have NB : Hid (∀ (a : ByteArray), a.data.toList = behind 45 l → ∀ w, Calls Tryd.prog 79 #[.string a] w (Num (numb (behind 45 l)) w)) := Lib.hid (fun a h w => number a _ h.symm (sz a _ h hlb) w)
  have ST := Lib.hid (fun (a b : Int) (w : World) => Set a b w)
  have L1 : Hid (∀ n, numb (ahead 45 l) = some n → n ≤ 99) := Lib.hid (fun n h => numb_le h)
  have L2 : Hid (∀ n, numb (behind 45 l) = some n → n ≤ 99) := Lib.hid (fun n h => numb_le h)
  clear hl hs hlen hla hlb sz
  unfold part
  unfold Split at C
  generalize ahead 45 l = A at *
  generalize behind 45 l = B at *
  generalize numb A = NA1 at *
  generalize numb B = NB1 at *
  generalize found 45 l = F at *
  cases NA1 with
  | none =>
    cases F
    all_goals
      go_enter Tryd.func64, Tryd.ntmps64
      go_wp2_with (go_at_call 63; refine C.out.mono ?_; rintro e w1 ⟨a, b, rfl, ha, hb, hg⟩)
      refine (NA.out a ha _).mono ?_; rintro e w2 ⟨rfl, rfl⟩
      go_wp2_with fail
      go_ret3
      exact part_none _ _ hg
  | some n =>
    have hn := L1.out n rfl
    cases F
    · show Calls _ _ _ _ (Part (some (n, n)) w)
      by_cases hbad : 64 ≤ n
      · have hz := Lib.hid (show true = badP (n, n) by simp [badP, hbad])
        go_enter Tryd.func64, Tryd.ntmps64
        go_wp2_with (go_at_call 63; refine C.out.mono ?_; rintro e w1 ⟨a, b, rfl, ha, hb, hg⟩)
        refine (NA.out a ha _).mono ?_; rintro e w2 ⟨rfl, rfl⟩
        go_wp2_with (go_at_call 80; refine (ST.out _ _ _).mono ?_; rintro e w3 ⟨rfl, rfl⟩)
        go_ret3
        first | exact part_fin _ _ _ _ hg _ hz.out | exact part_fin _ _ _ _ hg _ (by rw [← hz.out]; simp; try omega)
      · have hz := Lib.hid (show false = badP (n, n) by simp [badP, hbad])
        go_enter Tryd.func64, Tryd.ntmps64
        go_wp2_with (go_at_call 63; refine C.out.mono ?_; rintro e w1 ⟨a, b, rfl, ha, hb, hg⟩)
        refine (NA.out a ha _).mono ?_; rintro e w2 ⟨rfl, rfl⟩
        go_wp2_with (go_at_call 80; refine (ST.out _ _ _).mono ?_; rintro e w3 ⟨rfl, rfl⟩)
        go_ret3
        first | exact part_fin _ _ _ _ hg _ hz.out | exact part_fin _ _ _ _ hg _ (by rw [← hz.out]; simp; try omega)
    · cases NB1 with
      | none =>
        show Calls _ _ _ _ (Part none w)
        go_enter Tryd.func64, Tryd.ntmps64
        go_wp2_with (go_at_call 63; refine C.out.mono ?_; rintro e w1 ⟨a, b, rfl, ha, hb, hg⟩)
        refine (NA.out a ha _).mono ?_; rintro e w2 ⟨rfl, rfl⟩
        go_wp2_with fail
        refine (NB.out b hb _).mono ?_; rintro e w3 ⟨rfl, rfl⟩
        go_wp2_with fail
        go_ret3
        exact part_none _ _ hg
      | some k =>
        have hk := L2.out k rfl
        show Calls _ _ _ _ (Part (some (n, k)) w)
        have K : (64 ≤ n ∧ true = badP (n, k)) ∨ (n < 64 ∧ 64 ≤ k ∧ true = badP (n, k)) ∨ (n < 64 ∧ k < 64 ∧ k < n ∧ true = badP (n, k)) ∨ (n < 64 ∧ k < 64 ∧ n ≤ k ∧ false = badP (n, k)) := by
          simp [badP]
          omega
        rcases K with ⟨c1, z⟩ | ⟨c1, c2, z⟩ | ⟨c1, c2, c3, z⟩ | ⟨c1, c2, c3, z⟩
        all_goals
          have hz := Lib.hid z
          clear z
          go_enter Tryd.func64, Tryd.ntmps64
          go_wp2_with (go_at_call 63; refine C.out.mono ?_; rintro e w1 ⟨a, b, rfl, ha, hb, hg⟩)
          refine (NA.out a ha _).mono ?_; rintro e w2 ⟨rfl, rfl⟩
          go_wp2_with fail
          refine (NB.out b hb _).mono ?_; rintro e w3 ⟨rfl, rfl⟩
          go_wp2_with (go_at_call 80; refine (ST.out _ _ _).mono ?_; rintro e w4 ⟨rfl, rfl⟩)
          go_ret3
          first | exact part_fin _ _ _ _ hg _ hz.out | exact part_fin _ _ _ _ hg _ (by rw [← hz.out]; simp; try omega)
end Go.Proofs.YtikdhfedidknpaaDoor.Mask
