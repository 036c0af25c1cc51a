/- What each call of package renorm returns. Conditions: each argument is a number of its kind. -/
import Derived.Test.YteoemafdknmklaaRenormPlain
import Derived.Test.YteoemafdknmklaaFixSome
import Derived.LoopTactic
import Derived.Deep.LoopGhost
import Derived.Lib.Hide
import Derived.Laws.EntriesVeiled
namespace Go.Proofs.Yteoemafdknmklaa.Renorm
open Go.ChangeShapes Go.WideShapes Go.ChangeAt Go.RowKit Fix
set_option linter.unusedVariables false
set_option maxRecDepth 100000
set_option linter.unusedSimpArgs false

def Gives (v : Value) (w : World) (e : Ending) (w' : World) : Prop := e = .returned v ∧ Below w.heap.size w w'
def TwoB (n : Int) (is : Bool) (w : World) (e : Ending) (w' : World) : Prop := e = .returned (.tuple #[.int .i64 n, .bool is]) ∧ Below w.heap.size w w'
theorem twoB_of {a b : Int} {is was : Bool} {w w' : World} (h : a = b) (k : is = was) (g : Below w.heap.size w w') : TwoB b was w (.returned (.tuple #[.int .i64 a, .bool is])) w' := by subst h k; exact ⟨rfl, g⟩

theorem less (w : World) : Calls Try.prog 61 #[] w (Gives (.agg #[.func (.func 76) #[] #[], .func (.func 77) #[] #[]]) w) := by
  go_enter Try.func61, Try.ntmps61
  go_wp2
  refine bodyPost_ret (v := .agg #[.func (.func 76) #[] #[], .func (.func 77) #[] #[]]) (by simp [results, Try.results61, go_sem]) rfl ?_
  exact ⟨rfl, by go_grown⟩
theorem less_held : ∀ w, Sem.run Try.prog (Instr.field 85 (.agg #[.func (.func 76) #[] #[], .func (.func 77) #[] #[]]) 0) w = .ok (.func (.func 76) #[] #[]) w := fun w => rfl
theorem wakes (o m c : Int) (w : World) (hm : I64 m) (hc : I64 c) :
    Calls Try.prog 69 #[.int .i64 o, .int .i64 m, .int .i64 c] w (OneB (wake o m c) w) := by
  have m1 := Lib.hid (fun w => Fix.holds c 0 1099511627776 w)
  have m2 := Lib.hid (fun w => Fix.less m (hold c 0 1099511627776) w hm (i64_hold hc (by unfold I64; omega) (by unfold I64; omega)))
  unfold wake
  generalize ends (m - hold c 0 1099511627776) = x at *
  generalize hold c 0 1099511627776 = y at *
  have hg := Below.refl w.heap.size w
  have hf := less_held
  go_enter Try.func69, Try.ntmps69
  go_wp2_with (first
    | (go_at_call 61; refine (less _).mono ?_; rintro e w1 ⟨rfl, hg1⟩; replace hg := fresh_trans hg hg1; clear hg1)
    | (go_at_call 83; refine (m1.out _).mono ?_; rintro e w1 ⟨rfl, rfl⟩)
    | (go_at_call 76; refine (m2.out _).mono ?_; rintro e w1 ⟨rfl, hg1⟩; replace hg := fresh_trans hg hg1; clear hg1))
  all_goals (go_ret; exact oneB_of (by omega) hg)

/-- A slice of numbers of 64 bits, z 0 to z (len - 1). -/
def Lies (v : Option Addr) (len : Nat) (z : Nat → Int) (w : World) : Prop := ∀ j, j < len → ∃ b off, v = some ⟨b, off, none⟩ ∧ b < w.heap.size ∧ w.cell? ⟨b, off + j, none⟩ = some (.int .i64 (z j))
theorem Lies.fresh {v : Option Addr} {len : Nat} {z : Nat → Int} {w w' : World} (h : Lies v len z w) (hg : Below w.heap.size w w') : Lies v len z w' := by
  intro j hj
  obtain ⟨b, o, e, hb, hc⟩ := h j hj
  exact ⟨b, o, e, by have := hg.size; omega, (hg.cell hb).trans hc⟩
def MinI (len : Nat) (z : Nat → Int) (w : World) (t3 t4 : Value) (wr : World) : Prop := ∃ k : Nat, k < len ∧ t3 = .int .i64 (lst z k) ∧ t4 = .int .i64 ((k : Int) + 1) ∧ wr = w
theorem mins (v : Option Addr) (len cap : Nat) (z : Nat → Int) (w : World) (h0 : 0 < len) (hlen : len ≤ 9223372036854775807) (HC : Hid (Lies v len z w)) :
    Calls Try.prog 80 #[.slice v len cap] w (One (lst z (len - 1)) w) := by
  obtain ⟨b, o, rfl, hb, hc⟩ := HC.out 0 h0
  rw [Nat.add_zero] at hc
  have h1 : ¬ (len : Int) < 1 := by omega
  have h2 : (0 : Int) < len := by omega
  go_enter Try.func80, Try.ntmps80
  go_wp2
  go_loopw [3, 4] (fun t3 t4 wr => MinI len z w t3 t4 wr) (fun _ i _ => len - (intOf i).toNat)
  case atStart => exact ⟨0, h0, rfl, rfl, rfl⟩
  case round =>
    clear hc
    obtain ⟨k, hk, rfl, rfl, rfl⟩ := hrel
    by_cases hlt : k + 1 < len
    · obtain ⟨b', o', e, _, hc⟩ := HC.out (k + 1) hlt
      cases e
      have h3 : (k : Int) + 1 < len := by omega
      go_wp2
      go_roundw
      case rel => exact ⟨k + 1, hlt, by rw [lst]; congr 1; split <;> omega, by go_num, rfl⟩
      case measure => simp [intOf]; omega
    · have h3 : ¬ (k : Int) + 1 < len := by omega
      go_wp2
      go_ret
      exact one_of (by rw [show len - 1 = k by omega])
theorem highers (m : Int) (v : Option Addr) (len cap : Nat) (z : Nat → Int) (w : World) (hlen : len ≤ 9223372036854775807) (HC : Hid (Lies v len z w)) :
    Calls Try.prog 66 #[.int .i64 m, .slice v len cap] w (One (hi m z len) w) := by
  by_cases h0 : len = 0
  · subst h0
    rw [hi_none]
    go_enter Try.func66, Try.ntmps66
    go_wp2
    go_ret; exact ⟨rfl, rfl⟩
  · have h1 : ((len : Int) == 0) = false := by simpa using h0
    have m1 := Lib.hid (mins v len cap z w (by omega) hlen HC)
    rw [show hi m z len = max m (lst z (len - 1)) from if_neg h0]
    generalize lst z (len - 1) = x at *
    go_enter Try.func66, Try.ntmps66
    go_wp2_with (go_at_call 80; refine m1.out.mono ?_; rintro e w1 ⟨rfl, rfl⟩)
    all_goals (go_ret; exact one_of (by omega))
end Go.Proofs.Yteoemafdknmklaa.Renorm
