/- A queue with one entity, as plain data: where its vruntime stands. Conditions: none. -/
import Derived.Test.YtobfcdjahlhkgaaQueueSound
namespace Go.Proofs.Ytobfcdjahlhkgaa.Queue
open Go.ChangeShapes Go.WideShapes Go.ChangeAt Go.RowKit Tree
set_option linter.unusedVariables false
set_option linter.unusedSimpArgs false

/-- One of that weight, served for A in all. -/
def one3 (wt A : Int) : Ent := ⟨3, wt, 1024 * A / wt, 1024 * A % wt⟩
def lone (wt A cur : Int) : St := ⟨[one3 wt A], cur, 1024 * A / wt, false⟩

theorem lone_bd {wt A : Int} (h1 : 64 ≤ wt) (h2 : wt ≤ 4095) (a1 : 0 ≤ A) (a2 : A ≤ 600000000) : 0 ≤ 1024 * A / wt ∧ 1024 * A / wt ≤ 9600000000 ∧ 0 ≤ 1024 * A % wt ∧ 1024 * A % wt < wt := by
  refine ⟨Int.ediv_nonneg (by omega) (by omega), ?_, Int.emod_nonneg _ (by omega), Int.emod_lt_of_pos _ (by omega)⟩
  have : 1024 * A / wt ≤ 1024 * A / 64 := by
    apply Int.le_ediv_of_mul_le (by omega)
    have h3 := Int.ediv_mul_le (1024 * A) (show wt ≠ 0 by omega)
    have h4 : 0 ≤ 1024 * A / wt := Int.ediv_nonneg (by omega) (by omega)
    have h5 : 1024 * A / wt * 64 ≤ 1024 * A / wt * wt := Int.mul_le_mul_of_nonneg_left h1 h4
    omega
  omega
theorem lone_sound {wt A cur : Int} (h1 : 64 ≤ wt) (h2 : wt ≤ 4095) (a1 : 0 ≤ A) (a2 : A ≤ 600000000) (hc : cur = -1 ∨ cur = 3) : Sound (lone wt A cur) := by
  obtain ⟨b1, b2, b3, b4⟩ := lone_bd h1 h2 a1 a2
  refine ⟨by simp [lone, Once], fun e he => ?_, by simp [lone], by unfold I64 lone; rcases hc with rfl | rfl <;> simp, by unfold I64 lone; simp; omega⟩
  simp [lone] at he
  subst he
  simp only [one3]
  unfold I64
  omega
theorem lone_put (wt : Int) (h1 : 64 ≤ wt) (h2 : wt ≤ 4095) : errPut St.new.es ⟨3, wt, 0, 0⟩ = 0 ∧ putS St.new ⟨3, wt, 0, 0⟩ = lone wt 0 (-1) := by
  have e : errPut St.new.es ⟨3, wt, 0, 0⟩ = 0 := by
    unfold errPut
    rw [if_neg (by simp)]
    have : Vrun.cerr wt 0 0 = 0 := by
      unfold Vrun.cerr
      rw [if_neg (by omega), if_neg (by omega), if_neg (by omega)]
    simp [this, named, St.new]
  refine ⟨e, ?_⟩
  unfold putS
  rw [if_pos e]
  simp [St.new, insE, rise, lone, one3]
theorem lone_chosen (wt A cur g : Int) (hc : cur = -1 ∨ cur = 3) : chosen (lone wt A cur) g = 3 := by
  rcases hc with rfl | rfl
  · simp [chosen, stays, lone, named, one3, other, drop]
  · simp [chosen, stays, lone, named, one3, other, drop, find]
theorem lone_other (wt A : Int) : other (lone wt A 3) = none := by simp [other, lone, one3, drop]
theorem lone_charge (wt A ns : Int) (h1 : 64 ≤ wt) (h2 : wt ≤ 4095) (a1 : 0 ≤ A) (n1 : 0 ≤ ns) (n2 : ns ≤ 10000000) (a2 : A + ns ≤ 600000000) : errCharge (lone wt A 3) ns = 0 ∧ chargeS (lone wt A 3) ns = lone wt (A + ns) 3 := by
  obtain ⟨b1, b2, b3, b4⟩ := lone_bd h1 h2 a1 (by omega)
  obtain ⟨c1, c2, c3, c4⟩ := lone_bd h1 h2 (A := A + ns) (by omega) a2
  have hn : named (lone wt A 3).es (lone wt A 3).cur = true := by simp [lone, named, one3]
  have hf : find (lone wt A 3).es (lone wt A 3).cur = one3 wt A := by simp [lone, find, one3]
  have hz : Vrun.cerr (one3 wt A).wt (one3 wt A).rm ns = 0 := by
    unfold Vrun.cerr one3
    simp only
    rw [if_neg (by omega), if_neg (by omega), if_neg (by omega)]
  have he : errCharge (lone wt A 3) ns = 0 := by unfold errCharge; rw [hn, if_pos rfl, hf, hz]
  have k1 : 1024 * A / wt + (1024 * A % wt + 1024 * ns) / wt = 1024 * (A + ns) / wt := by
    have h3 : 1024 * (A + ns) = (1024 * A % wt + 1024 * ns) + wt * (1024 * A / wt) := by
      have := Int.emod_add_mul_ediv (1024 * A) wt
      omega
    rw [h3, Int.add_mul_ediv_left _ _ (by omega)]
    omega
  have k2 : (1024 * A % wt + 1024 * ns) % wt = 1024 * (A + ns) % wt := by
    have h3 : 1024 * (A + ns) = (1024 * A % wt + 1024 * ns) + wt * (1024 * A / wt) := by
      have := Int.emod_add_mul_ediv (1024 * A) wt
      omega
    rw [h3, Int.add_mul_emod_self_left]
  have hs : served (one3 wt A) ns = one3 wt (A + ns) := by
    have z : Vrun.cerr wt (1024 * A % wt) ns = 0 := hz
    unfold served Vrun.cval Vrun.crem one3
    simp only [z, if_true]
    rw [k1, k2]
    unfold Fix.ends
    rw [if_neg (by omega), if_neg (by omega)]
  have ho : over (one3 wt A) ns = false := by
    have z : Vrun.cerr wt (1024 * A % wt) ns = 0 := hz
    unfold over Vrun.cval one3
    simp only [z, if_true]
    rw [k1]
    unfold Fix.fits
    simp
    omega
  have hmono : 1024 * A / wt ≤ 1024 * (A + ns) / wt := by
    rw [← k1]
    have : 0 ≤ (1024 * A % wt + 1024 * ns) / wt := Int.ediv_nonneg (by omega) (by omega)
    omega
  refine ⟨he, ?_⟩
  unfold chargeS
  rw [if_pos he, hf, hs, ho]
  have hd : drop (lone wt A 3).es (lone wt A 3).cur = [] := by simp [lone, drop, one3]
  rw [hd]
  simp [insE, rise, lone, one3]
  omega
end Go.Proofs.Ytobfcdjahlhkgaa.Queue
