/- The walk of ArenaFull. Conditions: the argument is a number of 8 bits. -/
import Derived.Test.YtpiennnkgbfbbaaArenaLaws
import Derived.LoopTactic
namespace Go.Proofs.Ytpiennnkgbfbbaa.Arena
open Go.ChangeShapes Go.WideShapes Go.ChangeAt Go.RowKit
set_option linter.unusedVariables false
set_option linter.unusedSimpArgs false

/-- k places, each with its own number in it. -/
def F (k : Nat) : List Pl := (List.range k).map fun (i : Nat) => (⟨(i : Int), true, 0⟩ : Pl)
theorem F_length (k : Nat) : (F k).length = k := by simp [F]
theorem F_succ (k : Nat) : F (k + 1) = F k ++ [⟨k, true, 0⟩] := by simp [F, List.range_succ]
theorem F_get {k i : Nat} (h : i < k) : (F k)[i]? = some ⟨i, true, 0⟩ := by simp [F, h]
theorem F_cnt (k : Nat) : cnt (F k) = k := by
  induction k with
  | zero => simp [F, cnt]
  | succ k ih => rw [F_succ, cnt_append, ih]; simp [cnt]
theorem put_F {r : Int} {k : Nat} (h : (k : Int) < r) : (⟨r, F k, []⟩ : St).put k = ⟨⟨r, F (k + 1), []⟩, k, 0, 0⟩ := by
  simp [St.put, F_length, h, F_succ]
theorem put_over {r x : Int} {pl : List Pl} (h : (pl.length : Int) = r) : (⟨r, pl, []⟩ : St).put x = ⟨⟨r, pl, []⟩, 0, 0, 3⟩ := by
  simp [St.put, h]
theorem free_F {r : Int} {n k : Nat} (h : k < n) : (⟨r, F n, []⟩ : St).thing k 0 = k ∧ (⟨r, F n, []⟩ : St).err k 0 = 0 ∧ (⟨r, F n, []⟩ : St).free k 0 = ⟨r, (F n).set k ⟨0, false, 1⟩, [k]⟩ := by
  have hn : (⟨r, F n, []⟩ : St).names k 0 = true := by simp [St.names, St.at, F_get h]
  refine ⟨by simp [St.thing, hn, St.at, F_get h], by simp [St.err, hn], by simp [St.free, hn]⟩
theorem put_back {r x : Int} {n k : Nat} (h : k < n) : (⟨r, (F n).set k ⟨0, false, 1⟩, [k]⟩ : St).put x = ⟨⟨r, (F n).set k ⟨x, true, 1⟩, []⟩, k, 1, 0⟩ := by
  simp [St.put, List.getElem?_set, F_length, h]
theorem cnt_back {x : Int} {n k : Nat} (h : k < n) : cnt ((F n).set k ⟨x, true, 1⟩) = n := by
  have := cnt_set ⟨x, true, 1⟩ (F_get h)
  simp [F_cnt] at this
  exact this

section
variable {w0 w : World} {O : Nat → Prop} {N : Int} {b : Nat} {r : Int}
/-- A Put whose answer is known. -/
theorem Hold.putAs {st st' : St} {i g n : Int} (h : Hold w0 O N b st w) (x : Int) (hN : 0 ≤ N) (e : st.put x = ⟨st', i, g, n⟩) : Calls Try.prog 13 #[.pointer (some ⟨b, 0, none⟩), .int .i64 x] w (Res (.tuple #[.agg #[.int .i64 i, .int .i64 g], .int .i64 n]) w0 O N b st' w) := by
  have := h.put x hN
  rwa [e] at this
/-- A Free whose answer is known. -/
theorem Hold.freeAs {st st' : St} {i g x n : Int} (h : Hold w0 O N b st w) (hN : N ≤ 1000000000) (e : st.thing i g = x ∧ st.err i g = n ∧ st.free i g = st') : Calls Try.prog 19 #[.pointer (some ⟨b, 0, none⟩), .agg #[.int .i64 i, .int .i64 g]] w (Res (.tuple #[.int .i64 x, .int .i64 n]) w0 O (N + 1) b st' w) := by
  have := h.free i g hN
  rwa [e.1, e.2.1, e.2.2] at this
theorem Hold.lenAs {st : St} {n : Nat} (h : Hold w0 O N b st w) (e : cnt st.pl = n) : Calls Try.prog 22 #[.pointer (some ⟨b, 0, none⟩)] w (Res (.int .i64 n) w0 O N b st w) := by
  have := h.len
  rwa [e] at this
end

def FullI (w : World) (O : Nat → Prop) (b n : Nat) (r : Int) (t : Value) (wr : World) : Prop := ∃ k : Nat, k ≤ n ∧ t = .int .i64 k ∧ Hold w O 0 b ⟨r, F k, []⟩ wr

set_option maxRecDepth 100000 in
theorem full_as (a : Int) (n : Nat) (w : World) (HN : Hid ((n : Int) = 1 + a)) (h0 : 0 ≤ a) (h1 : a ≤ 255) : Calls Try.prog 6 #[.int .u8 a] w (Yes w) := by
  have hg := Below.refl w.heap.size w
  go_enter Try.func6, Try.ntmps6
  go_wp2_with (first
    | (go_at_call 9; refine (awake _).mono ?_; rintro e w1 ⟨rfl, hg1⟩; replace hg := fresh_trans hg hg1; clear hg1)
    | (go_at_call 10; refine (newHold w w1 (1 + a) hg (by omega) (by omega)).mono ?_; rintro e w2 ⟨rfl, hH, _⟩))
  have hs := hH.sub
  go_loopw [7] (fun t wr => FullI w (· < w1.heap.size) w1.heap.size n (1 + a) t wr) (fun i _ => n - (intOf i).toNat)
  case atStart => exact ⟨0, by omega, rfl, hH⟩
  case round =>
    clear hH
    obtain ⟨k, hk, rfl, hH⟩ := hrel
    by_cases hlt : (k : Int) < 1 + a
    · go_wp2_with (first
        | (go_at_call 13; refine (hH.putAs k (by omega) (put_F hlt)).mono ?_; clear hH; rintro e w3 ⟨rfl, hH, _⟩))
      go_roundw
      case rel => exact ⟨k + 1, by have := HN.out; omega, by go_num, (hH.local _).forget hs⟩
      case measure => have := HN.out; simp [intOf]; omega
    · obtain rfl : k = n := by have := HN.out; omega
      have hq : ((k / 2 : Nat) : Int) = (1 + a) / 2 := by have := HN.out; omega
      have hq2 : k / 2 < k := by have := HN.out; omega
      have hl : ((F k).length : Int) = 1 + a := by rw [F_length]; exact HN.out
      have e1 : Hid ((⟨1 + a, F k, []⟩ : St).thing ((1 + a) / 2) 0 = (1 + a) / 2 ∧ (⟨1 + a, F k, []⟩ : St).err ((1 + a) / 2) 0 = 0 ∧ (⟨1 + a, F k, []⟩ : St).free ((1 + a) / 2) 0 = ⟨1 + a, (F k).set (k / 2) ⟨0, false, 1⟩, [k / 2]⟩) := by rw [← hq]; exact free_F hq2
      have e2 : Hid ((⟨1 + a, (F k).set (k / 2) ⟨0, false, 1⟩, [k / 2]⟩ : St).put (1 + a) = ⟨⟨1 + a, (F k).set (k / 2) ⟨1 + a, true, 1⟩, []⟩, (1 + a) / 2, 1, 0⟩) := by rw [← hq]; exact put_back hq2
      have e3 : Hid ((((F k).set (k / 2) ⟨1 + a, true, 1⟩).length : Int) = 1 + a) := by rw [List.length_set]; exact hl
      have e4 : Hid (cnt ((F k).set (k / 2) ⟨1 + a, true, 1⟩) = k) := cnt_back hq2
      have hl : Hid _ := hl
      clear hq
      go_wp2_with (first
        | (go_at_call 13; refine (hH.putAs (1 + a) (by omega) (put_over hl.out)).mono ?_; clear hH; rintro e w3 ⟨rfl, h3, _⟩)
        | (go_at_call 19; refine ((h3.local _).freeAs (by omega) e1.out).mono ?_; clear h3; rintro e w4 ⟨rfl, h4, _⟩)
        | (go_at_call 13; refine (h4.putAs (1 + a) (by omega) e2.out).mono ?_; clear h4; rintro e w5 ⟨rfl, h5, _⟩)
        | (go_at_call 13; refine ((h5.local _).putAs (1 + a) (by omega) (put_over e3.out)).mono ?_; clear h5; rintro e w6 ⟨rfl, h6, s6⟩; obtain ⟨a0, a1⟩ := s6.two (.inr rfl); clear s6; have b0 := cell_alloc a0; have b1 := cell_alloc a1)
        | (go_at_call 22; refine ((h6.local _).lenAs e4.out).mono ?_; clear h6; rintro e w7 ⟨rfl, h7, _⟩))
      go_ret
      exact ⟨by have := HN.out; simp [this], h7.below⟩
theorem fullLaw (a : Int) (w : World) (h0 : 0 ≤ a) (h1 : a ≤ 255) : Calls Try.prog 6 #[.int .u8 a] w (Yes w) :=
  full_as a (1 + a).toNat w (show _ = _ by omega) h0 h1
end Go.Proofs.Ytpiennnkgbfbbaa.Arena
