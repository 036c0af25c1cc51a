/- The walk of FifoFull. Conditions: each argument is a number of its kind. -/
import Derived.Test.YthphileaaoeamaaFifoTurnsW
namespace Go.Proofs.Ythphileaaoeamaa.Fifo
open Go.ChangeShapes Go.WideShapes Go.ChangeAt Go.RowKit Mem
set_option linter.unusedVariables false
set_option linter.unusedSimpArgs false
set_option maxRecDepth 100000

/-- 0 to k - 1. -/
def upto (k : Nat) : List Int := (List.range k).map fun (i : Nat) => (i : Int)
theorem upto_len (k : Nat) : (upto k).length = k := by simp [upto]
theorem upto_mem {k : Nat} {x : Int} : x ∈ upto k ↔ 0 ≤ x ∧ x < k := by
  simp only [upto, List.mem_map, List.mem_range]
  constructor
  · rintro ⟨i, hi, rfl⟩; constructor <;> omega
  · intro h; exact ⟨x.toNat, by omega, by omega⟩
theorem upto_put {k : Nat} (hk : k < 64) : may (upto k) k = true ∧ putL (upto k) k = upto (k + 1) := by
  have h : may (upto k) k = true := by
    have a1 : decide ((k : Int) < 0) = false := by rw [decide_eq_false_iff_not]; omega
    have a2 : decide (64 ≤ (upto k).length) = false := by rw [upto_len]; simpa using hk
    have a3 : decide ((k : Int) ∈ upto k) = false := by rw [decide_eq_false_iff_not, upto_mem]; omega
    simp [may, a1, a2, a3]
  exact ⟨h, by rw [putL, if_pos h]; simp [upto, List.range_succ]⟩
theorem full_no (p : Int) : may (upto 64) p = false ∧ putL (upto 64) p = upto 64 := by
  have h : may (upto 64) p = false := by
    have a2 : decide (64 ≤ (upto 64).length) = true := by rw [upto_len]; simp
    simp only [may, a2, Bool.not_true, Bool.and_false, Bool.false_and]
  exact ⟨h, by simp [putL, h]⟩
theorem upto_nodup (k : Nat) : (upto k).Nodup := by
  unfold upto List.Nodup
  rw [List.pairwise_map]
  exact (List.nodup_range (n := k)).imp fun h e => h (by omega)
theorem less_put {k : Nat} {p : Int} (hk : k < 64) (hp : 64 ≤ p) : may ((upto 64).erase k) p = true ∧ putL ((upto 64).erase k) p = (upto 64).erase k ++ [p] ∧ ((upto 64).erase k ++ [p]).length = 64 ∧ (k : Int) ∉ (upto 64).erase k ++ [p] ∧ ((upto 64).erase k ++ [p])[63]? = some p := by
  have hm : (k : Int) ∈ upto 64 := upto_mem.2 (by omega)
  have hl : ((upto 64).erase k).length = 63 := by rw [List.length_erase_of_mem hm, upto_len]
  have h : may ((upto 64).erase k) p = true := by
    have a1 : decide (p < 0) = false := by simp; omega
    have a2 : decide (64 ≤ ((upto 64).erase k).length) = false := by rw [hl]; simp
    have a3 : decide (p ∈ (upto 64).erase k) = false := by
      rw [decide_eq_false_iff_not]
      intro hp'
      have := upto_mem.1 (List.mem_of_mem_erase hp')
      omega
    simp only [may, a1, a2, a3]; rfl
  refine ⟨h, by simp [putL, h], by simp [hl], ?_, ?_⟩
  · rw [List.mem_append]
    rintro (h1 | h1)
    · exact (upto_nodup 64).not_mem_erase h1
    · simp at h1; omega
  · rw [List.getElem?_append_right (by omega), hl]; rfl
def FullI (w : World) (b : Nat) (left : Nat) (t : Value) (wr : World) : Prop := ∃ k : Nat, k ≤ 64 ∧ left = 64 - k ∧ t = .int .i64 k ∧ Line wr b (· ≠ b) (upto k) ∧ w.heap.size ≤ b ∧ Below w.heap.size w wr
set_option maxHeartbeats 4000000 in
theorem fullLaw (at_ more : Int) (w : World) (h0 : 0 ≤ at_) (h1 : at_ ≤ 255) (h2 : 0 ≤ more) (h3 : more ≤ 65535) :
    Calls Try.prog 8 #[.int .u8 at_, .int .u16 more] w (Yes w) := by
  have S := Lib.hid (fun w => shown w)
  have hg := Below.refl w.heap.size w
  go_enter Try.func8, Try.ntmps8
  go_wp2_with (first
    | (go_at_call 9; refine (S.out _).mono ?_; rintro e w' ⟨rfl, hg1⟩; replace hg := fresh_trans hg hg1; clear hg1)
    | (go_at_call 10; refine (new _).mono ?_; rintro e w2 ⟨rfl, h2', g2⟩))
  have H0 : Hid (FullI w w'.heap.size 64 (.int .i64 0) w2) := ⟨0, by omega, rfl, rfl, h2'.away, hg.size, hg.trans (g2.mono hg.size)⟩
  clear S h2' g2 hg
  generalize w'.heap.size = b at *
  go_loopg [7] 64 (fun left t wr => FullI w b left t wr)
  case atStart => exact H0.out
  case round =>
    clear H0
    obtain ⟨k, hk, rfl, rfl, hL, hold, hbel⟩ := hrel
    by_cases hlt : k < 64
    · have q1 : (k : Int) < 64 := by omega
      have P := Lib.hid (put wr b (· ≠ b) (upto k) k hL)
      obtain ⟨u1, u2⟩ := upto_put hlt
      rw [u1, u2] at P
      have NX : Hid (∀ w', Line w' b (· ≠ b) (upto (k + 1)) → Same (· ≠ b) wr w' → FullI w b (64 - (k + 1)) (.int .i64 ((k : Int) + 1)) w') := fun w' hl hs =>
        ⟨k + 1, by omega, rfl, by go_num, hl, hold, hbel.trans (near hs hold hbel.size)⟩
      clear hL u1 u2
      generalize upto (k + 1) = U at *
      go_wp2_with (go_at_call 11; refine P.out.mono ?_; rintro e w3 ⟨rfl, h3', s3⟩; have NX' := Lib.hid (NX.out w3 h3' s3))
      go_roundg (64 - (k + 1))
      case measure => omega
      case rel => exact NX'.out
    · obtain rfl : k = 64 := by omega
      have q1 : ¬ ((64 : Nat) : Int) < 64 := by omega
      obtain ⟨m, hm⟩ : ∃ m : Nat, at_ % 64 = m := ⟨(at_ % 64).toNat, by omega⟩
      have hm4 : (m : Int) < 64 := by omega
      obtain ⟨p, hp⟩ : ∃ p, 64 + more = p := ⟨_, rfl⟩
      obtain ⟨f1, f2⟩ := full_no p
      obtain ⟨g1, g2, g3, g4, g5⟩ := less_put (k := m) (p := p) (by omega) (by omega)
      have P1 := Lib.hid (put wr b (· ≠ b) (upto 64) p hL)
      rw [f1, f2] at P1
      have D1 := Lib.hid (fun w' h => drop w' b (· ≠ b) (upto 64) m h)
      rw [show decide ((m : Int) ∈ upto 64) = true by rw [decide_eq_true_eq, upto_mem]; omega] at D1
      have P2 := Lib.hid (fun w' h => put w' b (· ≠ b) ((upto 64).erase m) p h)
      rw [g1, g2] at P2
      have hbm : (upto 64).erase m ++ [p] = (upto 64).erase m ++ [p] := rfl
      clear f1 f2 g1 g2
      generalize (upto 64).erase m = E1 at *
      generalize E1 ++ [p] = E2 at *
      have LL := Lib.hid (fun w' h => list w' b (· ≠ b) E2 h)
      unfold Told at LL
      have GB := Lib.hid (fun w' (hs : Same (· ≠ b) wr w') => hbel.trans (near hs hold hbel.size))
      have g4' : decide ((m : Int) ∈ E2) = false := by rw [decide_eq_false_iff_not]; exact g4
      rw [g3] at LL
      clear hbm g4 hL
      have p0 : 64 ≤ p := by omega
      have p1 : p ≤ 65600 := by omega
      go_wp2_with fail
      clear hm hp
      go_at_call 11; refine P1.out.mono ?_; rintro e w3 ⟨rfl, h3', s3⟩
      go_wp2_with fail
      go_at_call 14; refine (D1.out _ h3').mono ?_; rintro e w4 ⟨rfl, h4', s4⟩
      go_wp2_with fail
      go_at_call 11; refine (P2.out _ h4').mono ?_; rintro e w5 ⟨rfl, h5', s5⟩
      go_wp2_with fail
      go_at_call 18; refine (LL.out _ h5').mono ?_; rintro e w6 ⟨ao, cp, rfl, hl, hg6⟩
      have GE := Lib.hid (fresh_trans (show Below w.heap.size w w5 from GB.out _ ((s3.trans s4).trans s5)) hg6)
      obtain ⟨b3, o3, rfl, _, hb3, c3⟩ := hl 63 p g5
      have HA := Lib.hid (fun w' (g : Below w6.heap.size w6 w') => has _ _ cp E2 m w' (by omega) (hl.fresh g))
      rw [g3, g4'] at HA
      clear P1 D1 P2 LL GB h3' s3 h4' s4 h5' s5 hl hg6
      go_wp2_with (first
        | (go_at_call 13; refine (take_nil _).mono ?_; rintro e w7 ⟨rfl, rfl⟩))
      replace HA := Lib.hid (HA.out _ (Below.refl _ _))
      have GE' := GE.out
      go_wp2_with (first
        | (go_at_call 22; refine HA.out.mono ?_; rintro e w8 ⟨rfl, rfl⟩)
        | (go_at_call 11; refine (put_nil _ _).mono ?_; rintro e w8 ⟨rfl, rfl⟩)
        | (go_at_call 14; refine (drop_nil _ _).mono ?_; rintro e w8 ⟨rfl, rfl⟩)
        | (go_at_call 16; refine (len_nil _).mono ?_; rintro e w8 ⟨rfl, rfl⟩)
        | (go_at_call 18; refine (list_nil _).mono ?_; rintro e w9 ⟨ao9, cp9, rfl, _, g9⟩))
      go_ret
      exact yes_of (by simp) (fresh_trans GE' g9)
end Go.Proofs.Ythphileaaoeamaa.Fifo
