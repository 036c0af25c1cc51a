/- What is put, dropped, served and picked leaves a queue sound. Conditions: none. -/
import Derived.Test.YteoemafdknmklaaQueueDrop
namespace Go.Proofs.Yteoemafdknmklaa.Queue
open Tree
set_option linter.unusedVariables false
set_option linter.unusedSimpArgs false

theorem cerr_zero {x r t : Int} (h : Vrun.cerr x r t = 0) : 2 ≤ x ∧ x ≤ 262144 ∧ r < x ∧ t ≤ 1000000000 := by
  unfold Vrun.cerr at h
  split at h
  · cases h
  · split at h
    · cases h
    · split at h
      · cases h
      · omega
theorem mem_insE {e x : Ent} {l : List Ent} : x ∈ insE e l ↔ x = e ∨ x ∈ l := by rw [(insE_perm e l).mem_iff]; simp
theorem mem_drop {es : List Ent} {id : Int} {x : Ent} : x ∈ drop es id ↔ x ∈ es ∧ x.id ≠ id := by unfold drop; rw [List.mem_filter]; simp
theorem len_insE (e : Ent) (l : List Ent) : (insE e l).length = l.length + 1 := by rw [(insE_perm e l).length_eq]; rfl
theorem Sound.new : Sound St.new := ⟨List.Pairwise.nil, fun e he => by simp [St.new] at he, by simp [St.new], by simp [St.new, I64], by simp [St.new, I64]⟩
theorem rise_es (st : St) : (rise st).es = st.es := by unfold rise; split <;> simp_all
theorem rise_cur (st : St) : (rise st).cur = st.cur := by unfold rise; split <;> rfl
theorem rise_flag (st : St) : (rise st).flag = st.flag := by unfold rise; split <;> rfl
theorem rise_min (st : St) : st.min ≤ (rise st).min := by unfold rise; split <;> simp <;> omega
theorem Sound.rise {st : St} (h : Sound st) : Sound (rise st) := by
  refine ⟨by rw [rise_es]; exact h.once, by rw [rise_es]; exact h.each, by rw [rise_es]; exact h.few, by rw [rise_cur]; exact h.cur, ?_⟩
  unfold Queue.rise
  split
  · exact h.min
  · rename_i e l he
    have a := h.min
    have b := (h.each e (by rw [he]; simp)).2.2.2.2.2.2
    unfold I64 at *
    simp only
    omega
theorem Sound.put {st : St} (h : Sound st) {e : Ent} (hid : I64 e.id) (hv : I64 e.v) (hr : 0 ≤ e.rm) : Sound (putS st e) := by
  unfold putS
  split
  · rename_i hz
    obtain ⟨z1, z2, z3, z4⟩ := errPut_zero hz
    obtain ⟨c1, c2, c3, _⟩ := cerr_zero z2
    refine Sound.rise ⟨once_ins h.once z3, ?_, by simp only [len_insE]; omega, h.cur, h.min⟩
    intro x hx
    rcases mem_insE.1 hx with rfl | hx
    · unfold I64 at hid
      exact ⟨z1, hid.2, c1, c2, hr, c3, hv⟩
    · exact h.each x hx
  · exact h
theorem Sound.drop {st : St} (h : Sound st) {id : Int} : Sound (dropS st id) := by
  unfold dropS
  split
  · rename_i hn
    have hl : (Queue.drop st.es id).length ≤ st.es.length := List.length_filter_le _ _
    have hf := h.few
    refine Sound.rise ⟨once_drop h.once id, fun x hx => h.each x (mem_drop.1 hx).1, by simp only; omega, ?_, h.min⟩
    have := h.cur
    simp only
    split
    · unfold I64; omega
    · exact this
  · exact h
theorem served_ok {e : Ent} {ns : Int} (hn : 0 ≤ ns) (h1 : 2 ≤ e.wt) (h2 : e.wt ≤ 262144) (h3 : 0 ≤ e.rm) (h4 : e.rm < e.wt) (hz : Vrun.cerr e.wt e.rm ns = 0) :
    (served e ns).id = e.id ∧ (served e ns).wt = e.wt ∧ 0 ≤ (served e ns).rm ∧ (served e ns).rm < e.wt ∧ I64 (served e ns).v ∧ Vrun.cval e.wt e.rm ns = (e.rm + 1024 * ns) / e.wt ∧ (served e ns).rm = (e.rm + 1024 * ns) % e.wt := by
  obtain ⟨_, _, _, c4⟩ := cerr_zero hz
  have q := Vrun.quot_bd h1 h4 h3 h2 hn c4
  have e1 := Vrun.cval_in h1 h2 h4 c4
  have e2 := Vrun.crem_in h1 h2 h4 c4
  refine ⟨rfl, rfl, ?_, ?_, Fix.i64_ends _, e1, e2⟩
  · simp only [served, e2]; exact q.2.2.1
  · simp only [served, e2]; exact q.2.2.2
theorem Sound.charge {st : St} (h : Sound st) {ns : Int} (hn : 0 ≤ ns) : Sound (chargeS st ns) := by
  unfold chargeS
  split
  · rename_i hz
    have hnm : named st.es st.cur = true := by
      unfold errCharge at hz
      cases hh : named st.es st.cur
      · rw [hh] at hz; simp at hz
      · rfl
    have hce : Vrun.cerr (find st.es st.cur).wt (find st.es st.cur).rm ns = 0 := by unfold errCharge at hz; rw [hnm] at hz; simpa using hz
    obtain ⟨f1, f2⟩ := find_of hnm
    have he := h.each _ f1
    obtain ⟨s1, s2, s3, s4, s5, _⟩ := served_ok (e := find st.es st.cur) hn he.2.2.1 he.2.2.2.1 he.2.2.2.2.1 he.2.2.2.2.2.1 hce
    have hl := len_drop h.once hnm
    have hf := h.few
    refine Sound.rise ⟨once_ins (once_drop h.once _) ?_, ?_, by simp only [len_insE]; omega, h.cur, h.min⟩
    · rw [s1, f2, named_drop]; simp
    · intro x hx
      rcases mem_insE.1 hx with rfl | hx
      · rw [s1, s2]
        exact ⟨he.1, he.2.1, he.2.2.1, he.2.2.2.1, s3, s4, s5⟩
      · exact h.each x (mem_drop.1 hx).1
  · exact h
/-- Who is chosen is there, or nobody is. -/
theorem chosen_is (st : St) (g : Int) : chosen st g = -1 ∨ named st.es (chosen st g) = true := by
  unfold chosen
  split
  · rename_i hs
    have hn : named st.es st.cur = true := by
      unfold stays at hs
      cases hh : named st.es st.cur
      · rw [hh] at hs; simp at hs
      · rfl
    obtain ⟨f1, f2⟩ := find_of hn
    exact .inr (by rw [f2]; exact hn)
  · split
    · exact .inl rfl
    · rename_i o ho
      refine .inr (List.any_eq_true.2 ⟨o, ?_, by simp⟩)
      unfold other at ho
      exact (mem_drop.1 (List.mem_of_mem_head? ho)).1
theorem Sound.pick {st : St} (h : Sound st) (g : Int) : Sound { st with cur := chosen st g } := by
  refine ⟨h.once, h.each, h.few, ?_, h.min⟩
  rcases chosen_is st g with e | e
  · simp only [e]; unfold I64; omega
  · obtain ⟨x, hx, hid⟩ := List.any_eq_true.1 e
    have := h.each x hx
    have e2 : x.id = chosen st g := by simpa using hid
    simp only [← e2]
    unfold I64
    omega
end Go.Proofs.Yteoemafdknmklaa.Queue
