/- What the document's split and number tell of a text. Conditions: the text is of at most 2^47 - 4096 bytes. -/
import Derived.Test.YtikdhfedidknpaaDoorMaskText
import Derived.Test.YtikdhfedidknpaaDoorMaskParse
import Derived.Test.YtikdhfedidknpaaDoorMaskSplit
import Derived.Deep.QuietTactic
import Derived.BigQuiet
import Derived.LoopTactic
namespace Go.Proofs.YtikdhfedidknpaaDoor.Mask
open Go.ChangeShapes Go.WideShapes Go.ChangeAt Go.RowKit
set_option linter.unusedVariables false
set_option linter.unusedSimpArgs false
set_option maxRecDepth 100000

theorem fresh_trans {a b c : World} (h : Below a.heap.size a b) (k : Below b.heap.size b c) : Below a.heap.size a c := h.trans (k.mono h.size)
def Split (c : UInt8) (l : List UInt8) (w : World) (e : Ending) (w' : World) : Prop := ∃ a b : ByteArray, e = .returned (.tuple #[.string a, .string b, .bool (found c l)]) ∧ a.data.toList = ahead c l ∧ b.data.toList = behind c l ∧ Below w.heap.size w w'

theorem data_at (s : ByteArray) (k : Nat) (h : k < s.size) : s.data.toList[k]? = some (s[k]'h) := by
  rw [List.getElem?_eq_getElem (by simpa using h)]
  rfl

theorem split_at {c : UInt8} {l : List UInt8} {k : Nat} (h1 : ∀ x ∈ l.take k, x ≠ c) (h2 : l[k]? = some c) : found c l = true ∧ ahead c l = l.take k ∧ behind c l = l.drop (k + 1) := by
  have hk : k < l.length := (List.getElem?_eq_some_iff.1 h2).1
  have hc : l.drop k = c :: l.drop (k + 1) := by
    rw [List.drop_eq_getElem_cons hk]
    congr 1
    exact (List.getElem?_eq_some_iff.1 h2).2
  have hl : l = l.take k ++ c :: l.drop (k + 1) := by rw [← hc, List.take_append_drop]
  have p1 : ∀ x ∈ l.take k, (x != c) = true := fun x hx => by simpa using h1 x hx
  have e1 : l.takeWhile (· != c) = l.take k := by
    conv => lhs; rw [hl]
    rw [List.takeWhile_append_of_pos p1, List.takeWhile_cons]
    simp
  have e2 : l.dropWhile (· != c) = c :: l.drop (k + 1) := by
    conv => lhs; rw [hl]
    rw [List.dropWhile_append_of_pos p1, List.dropWhile_cons]
    simp
  unfold found ahead behind
  rw [e1, e2]
  exact ⟨rfl, rfl, rfl⟩
theorem split_end {c : UInt8} {l : List UInt8} (h : ∀ x ∈ l, x ≠ c) : found c l = false ∧ ahead c l = l ∧ behind c l = [] := by
  have p1 : ∀ x ∈ l, (x != c) = true := fun x hx => by simpa using h x hx
  have e2 : l.dropWhile (· != c) = [] := by
    have := List.dropWhile_append_of_pos (l₂ := []) p1
    simpa using this
  have e1 : l.takeWhile (· != c) = l := by
    have := List.takeWhile_append_of_pos (l₂ := []) p1
    simpa using this
  unfold found ahead behind
  rw [e1, e2]
  exact ⟨rfl, rfl, rfl⟩

theorem split (s : ByteArray) (l : List UInt8) (hl : l = s.data.toList) (hs : s.size ≤ 140737488351232) (c : UInt8) (z : Int) (hz : z = (c.toNat : Int)) (w : World) : Calls Tryd.prog 63 #[.string s, .int .u8 z] w (Split c l w) := by
  have hl' := Lib.hid hl
  have hz' := Lib.hid hz
  clear hl hz
  go_enter Tryd.func63, Tryd.ntmps63
  go_wp2
  go_loop [7] (fun i => ∃ k : Nat, k ≤ s.size ∧ i = .int .i64 k ∧ ∀ x ∈ l.take k, x ≠ c) (fun i => match i with | .int _ m => s.size - m.toNat | _ => 0)
  case atStart => exact ⟨0, Nat.zero_le _, rfl, by simp⟩
  case round =>
    obtain ⟨k, hk, rfl, hb⟩ := hrel
    by_cases hlt : k < s.size
    · have hlt' : (k : Int) < (s.size : Int) := by omega
      by_cases hc : s[k] = c
      · have hc' : ((c.toNat : Int) == z) = true := by rw [hz'.out]; simp
        obtain ⟨q1, q2, q3⟩ := split_at hb (show l[k]? = some c by rw [hl'.out, data_at s k hlt, hc])
        have Q := Lib.hid (And.intro q1 (And.intro q2 q3))
        clear q1 q2 q3 hb
        go_wp2_with fail
        go_quiet (fail)
        go_wp2_with fail
        go_ret3
        obtain ⟨q1, q2, q3⟩ := Q.out
        refine ⟨s.extract 0 k, s.extract (k + 1) s.size, by rw [q1]; rfl, ?_, ?_, ⟨rfl, rfl, rfl, Nat.le_refl _, fun _ _ => rfl⟩⟩
        · rw [q2, hl'.out]
          simp
        · rw [q3, hl'.out]
          simp
          exact List.take_of_length_le (by simp)
      · have hc' : ((s[k].toNat : Int) == z) = false := by
          rw [hz'.out]
          have := toNat_ne hc
          simpa using fun h => this (by omega)
        have hb' : ∀ x ∈ l.take (k + 1), x ≠ c := by
          rw [List.take_add_one, hl'.out, data_at s k hlt]
          intro x hx
          simp only [List.mem_append, Option.toList_some, List.mem_singleton] at hx
          rcases hx with hx | rfl
          · exact hb x (by rw [hl'.out]; exact hx)
          · exact hc
        have B := Lib.hid hb'
        clear hb hb' hc
        go_wp2_with fail
        exact ⟨⟨k + 1, by omega, by simp, B.out⟩, by simp; omega⟩
    · have hlt' : ¬ (k : Int) < (s.size : Int) := by omega
      have hb' : ∀ x ∈ l, x ≠ c := by
        rw [List.take_of_length_le (by rw [hl'.out]; simp; omega)] at hb
        exact hb
      obtain ⟨q1, q2, q3⟩ := split_end hb'
      have Q := Lib.hid (And.intro q1 (And.intro q2 q3))
      clear q1 q2 q3 hb hb'
      go_wp2_with fail
      go_ret3
      obtain ⟨q1, q2, q3⟩ := Q.out
      exact ⟨s, ⟨#[]⟩, by rw [q1]; rfl, by rw [q2, hl'.out], by rw [q3], Below.refl _ _⟩
def dv (l : List UInt8) : Nat := l.foldl (fun n c => 10 * n + (c.toNat - 48)) 0
def Num (o : Option Nat) (w : World) (e : Ending) (w' : World) : Prop := e = .returned (.tuple #[.int .i64 (o.getD 0 : Nat), .bool o.isSome]) ∧ w' = w

theorem numb_long {l : List UInt8} (h : l.length < 1 ∨ 2 < l.length) : numb l = none := by
  match l, h with
  | [], _ => rfl
  | [a], h => simp at h
  | [a, b], h => simp at h
  | _ :: _ :: _ :: _, _ => rfl
theorem numb_zero {l : List UInt8} (h : l.length = 2) (h0 : l[0]? = some 48) : numb l = none := by
  match l, h with
  | [a, b], _ =>
    simp at h0
    subst h0
    simp [numb]
theorem numb_not {l : List UInt8} {c : UInt8} (h : c ∈ l) (hd : isDig c = false) : numb l = none := by
  match l, h with
  | [a], h =>
    simp at h
    subst h
    simp [numb, hd]
  | [a, b], h =>
    simp at h
    rcases h with rfl | rfl <;> simp [numb, hd]
  | _ :: _ :: _ :: _, _ => rfl
theorem numb_dv {l : List UInt8} (h1 : 1 ≤ l.length) (h2 : l.length ≤ 2) (h0 : l.length = 2 → l[0]? ≠ some 48) (hd : ∀ c ∈ l, isDig c = true) : numb l = some (dv l) := by
  match l, h1, h2 with
  | [a], _, _ => simp [numb, dv, hd a (by simp)]
  | [a, b], _, _ =>
    have ha := hd a (by simp)
    have hb := hd b (by simp)
    have h0' : a ≠ 48 := by simpa using h0 rfl
    have h3 : a.toNat ≠ 48 := toNat_ne (b := 48) h0'
    simp [numb, dv, ha, hb, h3]
  | _ :: _ :: _ :: _, _, h2 => simp at h2

theorem number_none (s : ByteArray) (hs : s.size ≤ 140737488351232) (w : World) (h : (s.size < 1 ∨ 2 < s.size) ∨ (s.size = 2 ∧ s.data.toList[0]? = some 48)) : Calls Tryd.prog 79 #[.string s] w (Num none w) := by
  rcases h with (h | h) | ⟨h, h0⟩
  · go_enter Tryd.func79, Tryd.ntmps79
    go_wp2
    go_ret2
    exact ⟨rfl, rfl⟩
  · go_enter Tryd.func79, Tryd.ntmps79
    go_wp2
    go_ret2
    exact ⟨rfl, rfl⟩
  · have h1 : s[0] = 48 := by
      rw [data_at s 0 (by omega)] at h0
      simpa using h0
    go_enter Tryd.func79, Tryd.ntmps79
    go_wp2
    go_ret2
    exact ⟨rfl, rfl⟩

def NumI (l : List UInt8) (n i : Value) : Prop := ∃ k : Nat, k ≤ l.length ∧ i = .int .i64 k ∧ n = .int .i64 (dv (l.take k) : Nat) ∧ ∀ c ∈ l.take k, isDig c = true

theorem dv_succ (l : List UInt8) (k : Nat) (c : UInt8) (h : l[k]? = some c) : dv (l.take (k + 1)) = 10 * dv (l.take k) + (c.toNat - 48) := by
  rw [List.take_add_one, h]
  simp [dv, List.foldl_append]
theorem dv_le (l : List UInt8) (hd : ∀ c ∈ l, isDig c = true) (h : l.length ≤ 2) : dv l ≤ 99 ∧ (l.length ≤ 1 → dv l ≤ 9) := by
  match l, h with
  | [], _ => simp [dv]
  | [a], _ =>
    have := hd a (by simp)
    simp [isDig] at this
    simp [dv]
    omega
  | [a, b], _ =>
    have h1 := hd a (by simp)
    have h2 := hd b (by simp)
    simp [isDig] at h1 h2
    simp [dv]
    omega
  | _ :: _ :: _ :: _, h2 => simp at h2

theorem number_loop (s : ByteArray) (l : List UInt8) (hl : l = s.data.toList) (w : World) (h1 : 1 ≤ s.size) (h2 : s.size ≤ 2) (h0 : s.size = 2 → l[0]? ≠ some 48) : Calls Tryd.prog 79 #[.string s] w (Num (numb l) w) := by
  have hlen : l.length = s.size := by rw [hl]; simp
  have hl' := Lib.hid hl
  have H0 := Lib.hid h0
  have K : s.size = 1 ∨ (s.size = 2 ∧ ∃ c : UInt8, (∃ h : 0 < s.size, s[0] = c) ∧ ((c.toNat : Int) == 48) = false) := by
    rcases Nat.lt_or_ge s.size 2 with h | h
    · exact .inl (by omega)
    · refine .inr ⟨by omega, s[0], ⟨by omega, rfl⟩, ?_⟩
      have := h0 (by omega)
      rw [hl, data_at s 0 (by omega)] at this
      have h5 := toNat_ne (a := s[0]'(by omega)) (b := 48) (fun e => this (by rw [e]))
      have h6 : (48 : UInt8).toNat = 48 := rfl
      rw [h6] at h5
      simp
      omega
  clear hl h0
  rcases K with hz | ⟨hz, c, ⟨hz0, hc⟩, hc0⟩
  all_goals
    go_enter Tryd.func79, Tryd.ntmps79
    go_wp2
    go_loop [4, 5] (fun n i => NumI l n i) (fun _ i => match i with | .int _ m => l.length - m.toNat | _ => 0)
    case atStart => exact ⟨0, Nat.zero_le _, rfl, by simp [dv], by simp⟩
    case round =>
      obtain ⟨k, hk, rfl, rfl, hd⟩ := hrel
      obtain ⟨b1, b2⟩ := dv_le (l.take k) hd (by simp; omega)
      by_cases hlt : k < s.size
      · have hlt' : (k : Int) < (s.size : Int) := by omega
        have hb2 : dv (l.take k) ≤ 9 := b2 (by simp; omega)
        have hat : l[k]? = some s[k] := by rw [hl'.out, data_at s k hlt]
        obtain ⟨x, hx⟩ : ∃ x, s[k] = x := ⟨_, rfl⟩
        by_cases hdx : isDig x = true
        · have hx1 : 48 ≤ x.toNat ∧ x.toNat ≤ 57 := by simpa [isDig] using hdx
          have hg : NumI l (.int .i64 ((10 * dv (l.take k) + (x.toNat - 48) : Nat) : Int)) (.int .i64 ((k + 1 : Nat) : Int)) := by
            rw [hx] at hat
            refine ⟨k + 1, by omega, rfl, by rw [dv_succ l k x hat], ?_⟩
            rw [List.take_add_one, hat]
            intro c hc
            simp only [List.mem_append, Option.toList_some, List.mem_singleton] at hc
            rcases hc with hc | rfl
            · exact hd c hc
            · exact hdx
          have G := Lib.hid hg
          obtain ⟨h48, h57⟩ := hx1
          clear hg hd hat hdx hk
          generalize dv (l.take k) = d at *
          go_wp2_with fail
          have e1 : (10 * (d : Int) + ((x.toNat : Int) - 48)) = ((10 * d + (x.toNat - 48) : Nat) : Int) := by omega
          have e2 : ((k : Int) + 1) = ((k + 1 : Nat) : Int) := by omega
          rw [e1, e2]
          exact ⟨G.out, by simp; omega⟩
        · have hn := numb_not (l := l) (c := x) (by rw [hx] at hat; exact List.mem_of_getElem? hat) (by simpa using hdx)
          have hx1 : (x.toNat : Int) < 48 ∨ (57 : Int) < (x.toNat : Int) := by
            simp [isDig] at hdx
            omega
          rw [hn]
          clear hn hd hat hdx
          rcases hx1 with hx1 | hx1
          all_goals
            go_wp2_with fail
            go_ret2
            exact ⟨rfl, rfl⟩
      · have hlt' : ¬ (k : Int) < (s.size : Int) := by omega
        have hall : l.take k = l := List.take_of_length_le (by omega)
        rw [hall] at hd
        have hn := Lib.hid (numb_dv (by omega) (by omega) (fun h => H0.out (by omega)) hd)
        rw [hall]
        go_wp2_with fail
        go_ret2
        refine ⟨?_, rfl⟩
        rw [hn.out]
        rfl

theorem number (s : ByteArray) (l : List UInt8) (hl : l = s.data.toList) (hs : s.size ≤ 140737488351232) (w : World) : Calls Tryd.prog 79 #[.string s] w (Num (numb l) w) := by
  have hlen : l.length = s.size := by rw [hl]; simp
  by_cases h1 : s.size < 1 ∨ 2 < s.size
  · rw [numb_long (by omega)]
    exact number_none s hs w (.inl h1)
  · by_cases h2 : s.size = 2 ∧ l[0]? = some 48
    · rw [numb_zero (by omega) h2.2]
      exact number_none s hs w (.inr ⟨h2.1, by rw [← hl]; exact h2.2⟩)
    · exact number_loop s l hl w (by omega) (by omega) (fun h h3 => h2 ⟨h, h3⟩)
end Go.Proofs.YtikdhfedidknpaaDoor.Mask
