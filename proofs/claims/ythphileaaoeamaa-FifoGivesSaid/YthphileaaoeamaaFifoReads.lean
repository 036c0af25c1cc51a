/- What the calls of package fifo that only read a line answer. Conditions: none. -/
import Derived.Test.YthphileaaoeamaaFifoMem
import Derived.Handy
import Derived.IntWalk
import Derived.Deep.QuietTactic
import Derived.BigQuiet
import Derived.BigRegion
import Derived.Deep.RegionWith
import Derived.Deep.RegionHeld3
import Derived.LoopTactic
import Derived.Deep.LoopGhost
import Derived.Lib.Hide
import Derived.Deep.Cut
import Derived.Deep.DeepCutAuto
import Derived.Deep.CutBlock
import Derived.Deep.RegionLaw
namespace Go.Proofs.Ythphileaaoeamaa.Fifo
open Go.ChangeShapes Go.WideShapes Go.ChangeAt Go.RowKit Mem
set_option linter.unusedVariables false
set_option linter.unusedSimpArgs false

/-- An answer, and nothing else; an answer, and orders drawn. -/
def Still (v : Value) (w : World) (e : Ending) (w' : World) : Prop := e = .returned v ∧ w' = w
def Drawn (v : Value) (w : World) (e : Ending) (w' : World) : Prop := e = .returned v ∧ ∃ m, w' = w.drewN m
theorem Still.drawn {v : Value} {w : World} {e : Ending} {w' : World} (h : Still v w e w') : Drawn v w e w' := ⟨h.1, 0, h.2⟩
theorem Parts.drewN {w : World} {b : Nat} {O : Nat → Prop} {r : List Int} {f n : Nat} (h : Parts w b O r f n) (m : Nat) : Parts (w.drewN m) b O r f n := h.fresh (drawn w m)
theorem Line.drewN {w : World} {b : Nat} {O : Nat → Prop} {xs : List Int} (h : Line w b O xs) (m : Nat) : Line (w.drewN m) b O xs := h.fresh (drawn w m)

theorem place (w : World) (b : Nat) (O : Nat → Prop) (r : List Int) (f n : Nat) (h : Parts w b O r f n) (i : Int) (a : Nat) (hi : i = a) (ha : a ≤ 64) :
    Calls Try.prog 24 #[.pointer (some ⟨b, 0, none⟩), .int .i64 i] w (Still (.int .i64 ((f + a) % 64 : Nat)) w) := by
  subst hi
  have c1 := h.first
  have c2 := h.free 64
  have c3 := h.fst
  have e1 : ((f : Int) + (a : Int)) % 64 = (((f + a) % 64 : Nat) : Int) := by omega
  clear h
  generalize (f + a) % 64 = k at *
  go_enter Try.func24, Try.ntmps24
  go_wp2
  go_ret; exact ⟨by simp [e1], rfl⟩
theorem len_nil (w : World) : Calls Try.prog 16 #[.pointer none] w (Still (.int .i64 0) w) := by
  go_enter Try.func16, Try.ntmps16
  go_wp2
  go_ret; exact ⟨rfl, rfl⟩
theorem len (w : World) (b : Nat) (O : Nat → Prop) (r : List Int) (f n : Nat) (h : Parts w b O r f n) : Calls Try.prog 16 #[.pointer (some ⟨b, 0, none⟩)] w (Still (.int .i64 n) w) := by
  have c1 := h.count
  have c2 := h.free 65
  clear h
  go_enter Try.func16, Try.ntmps16
  go_wp2
  go_ret; exact ⟨rfl, rfl⟩
theorem ahead_nil (w : World) (p : Int) : Calls Try.prog 23 #[.pointer none, .int .i64 p] w (Still (.int .i64 (-1)) w) := by
  go_enter Try.func23, Try.ntmps23
  go_wp2_with (go_at_call 16; refine (len_nil _).mono ?_; rintro e w1 ⟨rfl, rfl⟩)
  go_loopg [8] 0 (fun left t wr => t = .int .i64 0 ∧ wr = w1)
  case atStart => exact ⟨rfl, rfl⟩
  case round =>
    obtain ⟨rfl, rfl⟩ := hrel
    go_wp2_with fail
    go_ret; exact ⟨rfl, rfl⟩
def AhdI (xs : List Int) (p : Int) (w : World) (left : Nat) (t : Value) (wr : World) : Prop := ∃ k m : Nat, k ≤ xs.length ∧ left = xs.length - k ∧ t = .int .i64 k ∧ wr = w.drewN m ∧ Hid (∀ j, j < k → xs[j]? ≠ some p)
theorem ahead (w : World) (b : Nat) (O : Nat → Prop) (xs : List Int) (p : Int) (h : Line w b O xs) :
    Calls Try.prog 23 #[.pointer (some ⟨b, 0, none⟩), .int .i64 p] w (Drawn (.int .i64 (ahd xs p)) w) := by
  obtain ⟨r, f, h, ha⟩ := h
  have L := Lib.hid (len w b O r f _ h)
  have hx := h.cnt
  have hxi : (xs.length : Int) ≤ 64 := by omega
  go_enter Try.func23, Try.ntmps23
  go_wp2_with (go_at_call 16; refine L.out.mono ?_; rintro e w1 ⟨rfl, rfl⟩)
  go_loopg [8] xs.length (fun left t wr => AhdI xs p w1 left t wr)
  case atStart => exact ⟨0, 0, by omega, rfl, rfl, rfl, Lib.hid (fun j hj => by omega)⟩
  case round =>
    obtain ⟨k, m, hk, rfl, rfl, rfl, hb⟩ := hrel
    by_cases hlt : k < xs.length
    · have q1 : (k : Int) < xs.length := by omega
      obtain ⟨x, hx1⟩ : ∃ x, xs[k]? = some x := ⟨_, List.getElem?_eq_getElem hlt⟩
      have P := Lib.hid (fun n => place ((w1.drewN m).drewN n) b O r f _ ((h.drewN m).drewN n) k k rfl (by omega))
      have c0 := (h.drewN m).cell (k := (f + k) % 64) (x := x) (by rw [ha k hlt]; exact hx1)
      have fz := (h.drewN m).free
      have hj : (f + k) % 64 < 64 := by omega
      have NX := Lib.hid (show x ≠ p → ∀ n, AhdI xs p w1 (xs.length - (k + 1)) (.int .i64 ((k : Int) + 1)) ((w1.drewN m).drewN n) from fun hne n => ⟨k + 1, m + n, by omega, rfl, by go_num, by rw [World.drewN_drewN], Lib.hid (fun j hj => by
        rcases Nat.lt_succ_iff_lt_or_eq.1 hj with h1 | rfl
        · exact hb.out j h1
        · rw [hx1]; simpa using hne)⟩)
      have FD := Lib.hid (show x = p → ahd xs p = k from fun he => idx_of (by rw [hx1, he]) hb.out)
      generalize (f + k) % 64 = j at *
      have FE := Lib.hid (fun n => (⟨m + n, by rw [World.drewN_drewN]⟩ : ∃ m', (w1.drewN m).drewN n = w1.drewN m'))
      clear L hb ha h
      generalize w1.drewN m = W at *
      by_cases hp : x = p
      · rw [FD.out hp]
        subst hp
        go_wp2_with fail
        go_quiet (first | (go_at_call 24; exact Calls.quiet_of_same (P.out _)))
        go_wp2_with fail
        go_ret
        exact ⟨rfl, FE.out _⟩
      · have hp' : (x == p) = false := by simpa using hp
        have NX' := Lib.hid (NX.out hp)
        go_wp2_with fail
        go_quiet (first | (go_at_call 24; exact Calls.quiet_of_same (P.out _)))
        go_wp2_with fail
        go_roundg (xs.length - (k + 1))
        case measure => omega
        case rel => exact NX'.out _
    · obtain rfl : k = xs.length := by omega
      have q1 : ¬ ((xs.length : Nat) : Int) < xs.length := by omega
      have E := Lib.hid (ahd_out (not_in hb.out))
      clear hb ha h L
      go_wp2_with fail
      go_ret
      exact ⟨by rw [E.out]; rfl, _, rfl⟩
end Go.Proofs.Ythphileaaoeamaa.Fifo
