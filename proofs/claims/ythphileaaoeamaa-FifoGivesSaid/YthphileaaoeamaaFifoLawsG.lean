/- The walks of FifoGives and FifoLeft. Conditions: each argument is a number of its kind. -/
import Derived.Test.YthphileaaoeamaaFifoGiveR
namespace Go.Proofs.Ythphileaaoeamaa.Fifo
open Go.ChangeShapes Go.WideShapes Go.ChangeAt Go.RowKit Mem
set_option linter.unusedVariables false
set_option linter.unusedSimpArgs false
set_option maxRecDepth 100000

theorem givesLaw (v : Option Addr) (n cap : Nat) (z : Nat → Int) (p s : Int) (w : World) (hn : n ≤ 9223372036854775807) (hz : ∀ j, j < n → I64 (z j)) (hc : Lies v n z w) (hp : I64 p) (hs : I64 s) :
    Calls Try.prog 4 #[.slice v n cap, .int .i64 p, .int .i64 s] w (Yes w) := by
  have S := Lib.hid (fun w => shown w)
  have hg := Below.refl w.heap.size w
  by_cases h2 : (300 : Int) < n
  · go_enter Try.func4, Try.ntmps4
    go_wp2_with (go_at_call 9; refine (S.out _).mono ?_; rintro e w' ⟨rfl, hg1⟩; replace hg := fresh_trans hg hg1; clear hg1)
    go_ret
    exact yes_of rfl hg
  have CA := Lib.hid (fun w1 (h : Below w.heap.size w w1) => hc.fresh h)
  have m1 := Lib.hid (fun w h => gives v n cap z p s w hp hs (by omega) (Lib.hid hz) (Lib.hid h))
  have m2 := Lib.hid (fun w h => refGives v n cap z p s w hp hs (by omega) (Lib.hid hz) (Lib.hid h))
  have hn' : n ≤ 9223372036854775807 := by omega
  unfold Given at m1 m2
  clear hz hc
  generalize got z p s = f at *
  generalize left z p s n = q at *
  go_enter Try.func4, Try.ntmps4
  go_wp2_with (first
    | (go_at_call 9; refine (S.out _).mono ?_; rintro e w' ⟨rfl, hg1⟩; replace hg := fresh_trans hg hg1; clear hg1)
    | (go_at_call 19; refine (m1.out _ (CA.out _ hg)).mono ?_; rintro e w2 ⟨ao, cp, rfl, hl2, hg2⟩; replace hl2 := Lib.hid hl2; replace hg := fresh_trans hg hg2; clear hg2)
    | (go_at_call 20; refine (m2.out _ (CA.out _ hg)).mono ?_; rintro e w3 ⟨ao3, cp3, rfl, hl3, hg3⟩; replace hl3 := Lib.hid hl3; replace hl2 := Lib.hid (hl2.out.fresh hg3); replace hg := fresh_trans hg hg3; clear hg3)
    | (go_at_call 21; refine (nums _ _ n _ _ f f _ (by omega) hl2 hl3 (Lib.hid fun _ _ => rfl)).mono ?_; rintro e w4 ⟨rfl, hg4⟩; replace hg := fresh_trans hg hg4; clear hg4))
  go_ret
  exact yes_of (by simp) hg

def LeftI (n : Nat) (z : Nat → Int) (p s : Int) (w1 : World) (lf : Nat) (r t : Value) (wr : World) : Prop :=
  ∃ k m : Nat, k ≤ n ∧ lf = n - k ∧ t = .int .i64 k ∧ r = .int .i64 (left z p s k) ∧ wr = w1.drewN m
set_option maxHeartbeats 2000000 in
theorem leftLaw (v : Option Addr) (n cap : Nat) (z : Nat → Int) (p s : Int) (w : World) (hn : n ≤ 9223372036854775807) (hz : ∀ j, j < n → I64 (z j)) (hc : Lies v n z w) (hp : I64 p) (hs : I64 s) :
    Calls Try.prog 6 #[.slice v n cap, .int .i64 p, .int .i64 s] w (Yes w) := by
  have S := Lib.hid (fun w => shown w)
  have hg := Below.refl w.heap.size w
  by_cases h2 : (300 : Int) < n
  · go_enter Try.func6, Try.ntmps6
    go_wp2_with (go_at_call 9; refine (S.out _).mono ?_; rintro e w' ⟨rfl, hg1⟩; replace hg := fresh_trans hg hg1; clear hg1)
    go_ret
    exact yes_of rfl hg
  by_cases h1 : s < 1
  · go_enter Try.func6, Try.ntmps6
    go_wp2_with (go_at_call 9; refine (S.out _).mono ?_; rintro e w' ⟨rfl, hg1⟩; replace hg := fresh_trans hg hg1; clear hg1)
    go_ret
    exact yes_of rfl hg
  have CA := Lib.hid (fun w1 (h : Below w.heap.size w w1) => hc.fresh h)
  have m1 := Lib.hid (fun w h => gives v n cap z p s w hp hs (by omega) (Lib.hid hz) (Lib.hid h))
  have hn' : (n : Int) ≤ 300 := by omega
  have hl := left_i64 (s := s) hp n hz
  have hpos := fun h => left_pos (z := z) (s := s) (p := p) h n hz
  have Z := Lib.hid hz
  unfold Given at m1
  unfold I64 at hp hs hl
  clear hz hc
  obtain ⟨qn, hqn⟩ : ∃ q, left z p s n = q := ⟨_, rfl⟩
  rw [hqn] at m1 hl hpos
  have QN := Lib.hid hqn
  clear hqn
  go_enter Try.func6, Try.ntmps6
  go_wp2_with (first
    | (go_at_call 9; refine (S.out _).mono ?_; rintro e w' ⟨rfl, hg1⟩; replace hg := fresh_trans hg hg1; clear hg1)
    | (go_at_call 19; refine (m1.out _ (CA.out _ hg)).mono ?_; rintro e w2 ⟨ao, cp, rfl, hl2, hg2⟩; replace hl2 := Lib.hid hl2; replace hg := fresh_trans hg hg2; clear hg2))
  have CZ := Lib.hid (CA.out _ hg)
  clear m1 CA S
  go_loopg [10, 11] n (fun lf r t wr => LeftI n z p s w2 lf r t wr)
  case atStart => exact ⟨0, 0, by omega, rfl, rfl, rfl, rfl⟩
  case round =>
    obtain ⟨k, m, hk, rfl, rfl, rfl, rfl⟩ := hrel
    by_cases hlt : k < n
    · have h3 : (k : Int) < n := by omega
      obtain ⟨b1, o1, rfl, hb1, c1⟩ := CZ.out k hlt
      obtain ⟨b2, o2, rfl, hb2, c2⟩ := hl2.out k hlt
      have d1 : (w2.drewN m).cell? ⟨b1, o1 + k, none⟩ = _ := c1
      have d2 : (w2.drewN m).cell? ⟨b2, o2 + k, none⟩ = _ := c2
      have hl0 := left_i64 (s := s) (show I64 p from hp) k (fun j hj => Z.out j (by omega))
      have NX := Lib.hid (fun i => (⟨k + 1, m + i, by omega, rfl, by go_num, rfl, by rw [World.drewN_drewN]⟩ : LeftI n z p s w2 (n - (k + 1)) (.int .i64 (left z p s k - got z p s k)) (.int .i64 ((k : Int) + 1)) ((w2.drewN m).drewN i)))
      obtain ⟨pa, pb⟩ := part_i64 (s := s) (Z.out k hlt) hl0
      obtain ⟨pc, _⟩ := part_bd (n := z k) (p := left z p s k) (s := s) (Z.out k hlt).2
      obtain ⟨pd, pe⟩ := part_less (n := z k) (p := left z p s k) (s := s) (Z.out k hlt).2 h1
      rw [show part (z k) (left z p s k) s = got z p s k from rfl] at pa pb pc pd pe
      clear c1 c2
      generalize got z p s k = x at *
      generalize left z p s k = q at *
      generalize z k = y at *
      unfold I64 at pa pb hl0
      generalize w2.drewN m = W at *
      by_cases hy : y ≤ 0
      · have hx0 := pd hy
        subst hx0
        rw [Int.sub_zero] at NX
        have g1 : decide ((0 : Int) < y) = false := by simp; omega
        clear pd pe
        go_wp2_with fail
        go_quiet (fail)
        go_wp2_with fail
        go_roundg (n - (k + 1))
        case measure => omega
        case rel => exact NX.out _
      · by_cases g1 : x < y
        · have g2 := pe g1
          clear pd pe
          go_wp2_with fail
          go_quiet (fail)
          go_wp2_with fail
          go_roundg (n - (k + 1))
          case measure => omega
          case rel => exact NX.out _
        · have g1' : decide (x < y) = false := by simpa using g1
          clear pd pe
          go_wp2_with fail
          go_quiet (fail)
          go_wp2_with fail
          go_roundg (n - (k + 1))
          case measure => omega
          case rel => exact NX.out _
    · have h3 : ¬ (k : Int) < n := by omega
      obtain rfl : k = n := by omega
      have hgF := Lib.hid (hg.trans ((drawn w2 m).mono hg.size))
      rw [QN.out]
      clear CZ hl2
      by_cases hp0 : p < 0
      · clear hpos
        go_wp2_with fail
        go_ret
        exact yes_of (by simp) hgF.out
      · have hq := hpos (by omega)
        clear hpos
        go_wp2_with fail
        go_ret
        exact yes_of (by simp) hgF.out
end Go.Proofs.Ythphileaaoeamaa.Fifo
