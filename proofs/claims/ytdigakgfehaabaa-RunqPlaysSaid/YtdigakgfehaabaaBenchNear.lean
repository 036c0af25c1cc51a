/- All vruntimes of a bench lie near its least one, whatever work is done on it. Conditions: as each fact states them. -/
import Derived.Test.YtdigakgfehaabaaQueueYieldG
import Derived.Test.YtdigakgfehaabaaQueueWeigh
import Derived.Test.YtdigakgfehaabaaQueueSound
namespace Go.Proofs.Ytdigakgfehaabaa.Queue
open Tree
set_option linter.unusedVariables false
set_option linter.unusedSimpArgs false

theorem key_le {a b : Ent} (h : lt a.key b.key) : a.v ≤ b.v := by
  unfold lt Ent.key at h; simp only at h; omega
theorem head_le {e : Ent} {l : List Ent} (h : Sorted ((e :: l).map Ent.key)) : ∀ x ∈ e :: l, e.v ≤ x.v := by
  intro x hx
  rcases List.mem_cons.1 hx with rfl | hx
  · exact Int.le_refl _
  · have := (List.pairwise_cons.1 h).1 x.key (List.mem_map.2 ⟨x, hx, rfl⟩)
    exact key_le this
theorem key_mem {es : List Ent} {e : Ent} (h : named es e.id = false) : e.key ∉ es.map Ent.key := fun hm => by
  rw [key_named hm] at h; cases h
theorem other_mem {st : St} {o : Ent} (h : other st = some o) : o ∈ st.es ∧ o.id ≠ st.cur := by
  unfold other at h
  exact mem_drop.1 (List.mem_of_mem_head? h)
theorem other_head {st : St} (ho : Once st.es) {e : Ent} {l : List Ent} (he : st.es = e :: l) {o : Ent} (h : other st = some o) : o = e ∨ (e.id = st.cur ∧ l.head? = some o) := by
  rw [other_first he ho] at h
  split at h
  · rename_i h1; exact .inr ⟨h1, h⟩
  · exact .inl (Option.some.inj h).symm
theorem other_none {st : St} (ho : Once st.es) (h : other st = none) {x : Ent} (hx : x ∈ st.es) : x.id = st.cur := by
  unfold other at h
  have h0 : Queue.drop st.es st.cur = [] := by simpa using h
  by_cases e : x.id = st.cur
  · exact e
  · have : x ∈ Queue.drop st.es st.cur := mem_drop.2 ⟨hx, e⟩
    rw [h0] at this; cases this
end Go.Proofs.Ytdigakgfehaabaa.Queue
