/- A band that is served: what is kept, as plain data. Conditions: none. -/
import Derived.Test.YtjjcaplkmbigdaaQuotaPlain
namespace Go.Proofs.Ytjjcaplkmbigdaa.Quota
set_option linter.unusedVariables false
set_option linter.unusedSimpArgs false

theorem here_len {d d' : Bd} (h : d'.loc.length = d.loc.length) (p : Int) : here d' p = here d p := by simp [here, h]
theorem lim_q {d d' : Bd} (h : d'.q = d.q) : lim d' = lim d := by simp [lim, h]
theorem at_set_same {l : List Int} {k : Nat} {x : Int} (hk : k < l.length) : (l.set k x)[k]?.getD 0 = x := by simp [hk]
theorem at_set_ne {l : List Int} {k j : Nat} {x : Int} (h : k ≠ j) : (l.set k x)[j]?.getD 0 = l[j]?.getD 0 := by simp [List.getElem?_set, h]

/-- What was spent, the pool, and all local times together. -/
def bal (d : Bd) : Int := d.sp + d.p + tot d.loc
theorem bal_draw {d : Bd} {k : Nat} (hk : k < d.loc.length) : bal (drawS d k) = bal d := by
  simp only [bal, drawS, tot_set _ hk]
  rw [show d.loc[k]?.getD 0 = d.at k from rfl]; omega
theorem bal_ens (d : Bd) (p : Int) : bal (ensS d p) = bal d := by
  unfold ensS
  split
  · rename_i hc
    simp only [here, Bool.and_eq_true, decide_eq_true_eq] at hc
    exact bal_draw (by omega)
  · rfl
theorem bal_ret (d : Bd) (p : Int) : bal (retS d p) = bal d := by
  unfold retS
  split
  · rename_i hc
    simp only [here, Bool.and_eq_true, decide_eq_true_eq] at hc
    simp only [bal, tot_set _ (show p.toNat < d.loc.length by omega)]
    rw [show d.loc[p.toNat]?.getD 0 = d.at p.toNat from rfl]; omega
  · rfl
theorem bal_chg {d : Bd} (hl : lim d = true) (p n : Int) : bal (chgS d p n) = bal d := by
  unfold chgS
  split
  · rename_i hc
    have hh : here d p = true := by
      by_cases h : here d p = true
      · exact h
      · simp [chgE, h] at hc
    simp only [here, Bool.and_eq_true, decide_eq_true_eq] at hh
    rw [bal_ens]
    simp only [bal, paidS, hl, if_true, tot_set _ (show p.toNat < d.loc.length by omega)]
    rw [show d.loc[p.toNat]?.getD 0 = d.at p.toNat from rfl]; omega
  · rfl

def serveS (d : Bd) (kind p ns : Int) : Bd := if kind = 1 then retS d p else if ensB d p then chgS (ensS d p) p ns else ensS d p
theorem len_serve (d : Bd) (kind p ns : Int) : (serveS d kind p ns).loc.length = d.loc.length := by
  unfold serveS; split
  · exact len_ret d p
  · split
    · rw [len_chg, len_ens]
    · exact len_ens d p
theorem q_serve (d : Bd) (kind p ns : Int) : (serveS d kind p ns).q = d.q := by
  unfold serveS; split
  · exact q_ret d p
  · split
    · rw [q_chg, q_ens]
    · exact q_ens d p
theorem bal_serve {d : Bd} (hl : lim d = true) (kind p ns : Int) : bal (serveS d kind p ns) = bal d := by
  unfold serveS; split
  · exact bal_ret d p
  · split
    · rw [bal_chg (by rw [lim_q (q_ens d p)]; exact hl), bal_ens]
    · exact bal_ens d p
theorem ensB_pos {d : Bd} {p : Int} (hl : lim d = true) (h : ensB d p = true) : here d p = true ∧ 0 < (ensS d p).at p.toNat := by
  simp only [ensB, hl, Bool.not_true, Bool.false_or, Bool.and_eq_true, decide_eq_true_eq] at h
  exact h
theorem Inv.chg {M S : Int} {d : Bd} (h : Inv M S d) {p n M' : Int} (h0 : 0 ≤ n) (hM : M ≤ M') (hD : here d p = true → -M' ≤ d.at p.toNat - n) : Inv M' (S + n) (chgS d p n) := by
  unfold chgS
  split
  · rename_i hc
    have hh : here d p = true := by
      by_cases h : here d p = true
      · exact h
      · simp [chgE, h] at hc
    have hd := hD hh
    simp only [here, Bool.and_eq_true, decide_eq_true_eq] at hh
    exact (h.paid (by omega) h0 hM hd).ens p
  · exact h.up hM (by omega)
theorem Inv.serve {D S : Int} {d : Bd} (h : Inv D S d) (hl : lim d = true) {kind p ns : Int} (h0 : 0 ≤ ns) (h1 : ns ≤ D) : Inv D (S + D) (serveS d kind p ns) := by
  have m0 := h.m0
  unfold serveS; split
  · exact (h.ret p).up (Int.le_refl _) (by omega)
  · split
    · rename_i hb
      obtain ⟨hh, hp⟩ := ensB_pos hl hb
      exact ((h.ens p).chg h0 (Int.le_refl _) (fun _ => by omega)).up (Int.le_refl _) (by omega)
    · exact (h.ens p).up (Int.le_refl _) (by omega)
/-- Between two refills: nothing is lost or made. -/
theorem sp_most {D S : Int} {d : Bd} (h : Inv D S d) {began : Int} (hb : bal d = d.q + began) (h0 : began ≤ 0) : d.sp ≤ d.q + d.loc.length * D := by
  have h1 := tot_ge h.lo
  have h2 := h.p0
  unfold bal at hb
  omega
theorem bal_ref (d : Bd) : bal (refS d) = d.q + tot (refS d).loc := by simp [bal, refS]
theorem bal_set {n : Nat} {q s : Int} (h : badSet q s = false) : bal (setS (newS n) q s) = (setS (newS n) q s).q + 0 := by
  simp [bal, setS, h, newS, tot_zero]
theorem set_q {n : Nat} {q s : Int} (h : badSet q s = false) : (setS (newS n) q s).q = q := by simp [setS, h]
theorem len_new (n : Nat) : (newS n).loc.length = n := by simp [newS]
end Go.Proofs.Ytjjcaplkmbigdaa.Quota
