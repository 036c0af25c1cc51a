/- What ArenaOnce rests on: handles that were told, and which of them name something still. Conditions: none. -/
import Derived.Test.YtpiennnkgbfbbaaArenaKeepsW
namespace Go.Proofs.Ytpiennnkgbfbbaa.Arena
open Go.ChangeShapes Go.WideShapes Go.ChangeAt Go.RowKit
set_option linter.unusedVariables false
set_option linter.unusedSimpArgs false

structure Once (st : St) (T : List (Int × Int)) (L : List Bool) : Prop where
  len : L.length = T.length
  live : ∀ (k : Nat) (h : Int × Int), T[k]? = some h → L[k]? = some (st.names h.1 h.2)
  past : ∀ h ∈ T, ∃ (i : Nat) (q : Pl), h.1 = i ∧ st.pl[i]? = some q ∧ h.2 ≤ q.gen ∧ (q.full = false → h.2 < q.gen)
  nodup : T.Nodup
theorem Once.start (st : St) : Once st [] [] := ⟨rfl, by simp, by simp, by simp⟩

theorem names_at {st : St} {i : Nat} {g : Int} {q : Pl} (h : st.pl[i]? = some q) : st.names i g = (q.full && (q.gen == g)) := St.names_in h

theorem Once.add {st st' : St} {T : List (Int × Int)} {L : List Bool} {h : Int × Int} (hO : Once st T L) (hnew : h ∉ T) (hn : st'.names h.1 h.2 = true) (hs : ∀ p ∈ T, st'.names p.1 p.2 = st.names p.1 p.2) (hp : ∀ p ∈ T ++ [h], ∃ (i : Nat) (q : Pl), p.1 = i ∧ st'.pl[i]? = some q ∧ p.2 ≤ q.gen ∧ (q.full = false → p.2 < q.gen)) : Once st' (T ++ [h]) (L ++ [true]) := by
  refine ⟨by simp [hO.len], fun k p hk => ?_, hp, List.nodup_append.2 ⟨hO.nodup, by simp, by intro a ha b hb; simp at hb; subst hb; exact fun e => hnew (e ▸ ha)⟩⟩
  by_cases hlt : k < T.length
  · rw [List.getElem?_append_left hlt] at hk
    rw [List.getElem?_append_left (by rw [hO.len]; exact hlt), hO.live k p hk, hs p (List.mem_of_getElem? hk)]
  · have hk1 := (List.getElem?_eq_some_iff.1 hk).1
    simp at hk1
    obtain rfl : k = T.length := by omega
    simp at hk
    subst hk
    rw [List.getElem?_append_right (by rw [hO.len]; exact Nat.le_refl _)]
    simp [hO.len, hn]

theorem Once.put {N : Int} {st : St} {T : List (Int × Int)} {L : List Bool} (hO : Once st T L) (hI : Inv N st) (x : Int) :
    ((st.put x).n = 0 ∧ ((st.put x).i, (st.put x).g) ∉ T ∧ Once (st.put x).st (T ++ [((st.put x).i, (st.put x).g)]) (L ++ [true])) ∨ ((st.put x).n = 3 ∧ (st.put x).st = st) := by
  rcases hI.put x with ⟨hf, hl, e⟩ | ⟨hf, hl, e⟩ | ⟨l, i, q, hf, hq, hqf, e⟩
  · rw [e]; exact .inr ⟨rfl, rfl⟩
  · rw [e]
    have hnew : ((st.pl.length : Int), (0 : Int)) ∉ T := fun h => by
      obtain ⟨i, q, h1, h2, _⟩ := hO.past _ h
      have := (List.getElem?_eq_some_iff.1 h2).1
      simp at h1
      omega
    refine .inl ⟨rfl, hnew, hO.add hnew (by simp [St.names, St.at]) (fun p hp => ?_) (fun p hp => ?_)⟩
    · obtain ⟨i, q, h1, h2, h3, h4⟩ := hO.past p hp
      have hi := (List.getElem?_eq_some_iff.1 h2).1
      rw [h1, names_at h2, names_at (q := q) (by simp only; rw [List.getElem?_append_left hi]; exact h2)]
    · rcases List.mem_append.1 hp with hp | hp
      · obtain ⟨i, q, h1, h2, h3, h4⟩ := hO.past p hp
        exact ⟨i, q, h1, by simp only; rw [List.getElem?_append_left (List.getElem?_eq_some_iff.1 h2).1]; exact h2, h3, h4⟩
      · simp at hp
        subst hp
        exact ⟨st.pl.length, ⟨x, true, 0⟩, rfl, by simp, by simp, by simp⟩
  · rw [e]
    have hi := (List.getElem?_eq_some_iff.1 hq).1
    have old : ∀ p ∈ T, p.1 = (i : Int) → p.2 < q.gen := fun p hp h => by
      obtain ⟨i', q', h1, h2, h3, h4⟩ := hO.past p hp
      obtain rfl : i' = i := by omega
      rw [hq] at h2
      cases h2
      exact h4 hqf
    have hnew : ((i : Int), q.gen) ∉ T := fun h => by have := old _ h rfl; simp at this
    have hset : (st.pl.set i ⟨x, true, q.gen⟩)[i]? = some ⟨x, true, q.gen⟩ := by simp [List.getElem?_set, hi]
    refine .inl ⟨rfl, hnew, hO.add hnew (by rw [show (((i : Int), q.gen).1, ((i : Int), q.gen).2).1 = (i : Int) from rfl]; rw [names_at hset]; simp) (fun p hp => ?_) (fun p hp => ?_)⟩
    · obtain ⟨j, q', h1, h2, h3, h4⟩ := hO.past p hp
      by_cases hj : j = i
      · subst hj
        have := old p hp h1
        rw [hq] at h2
        cases h2
        rw [h1, names_at hset, names_at hq, hqf]
        simp
        omega
      · rw [h1, names_at h2, names_at (q := q') (by simp only; rw [List.getElem?_set_ne (Ne.symm hj)]; exact h2)]
    · rcases List.mem_append.1 hp with hp | hp
      · obtain ⟨j, q', h1, h2, h3, h4⟩ := hO.past p hp
        by_cases hj : j = i
        · subst hj
          rw [hq] at h2
          cases h2
          exact ⟨j, ⟨x, true, q.gen⟩, h1, hset, h3, by simp⟩
        · exact ⟨j, q', h1, by simp only; rw [List.getElem?_set_ne (Ne.symm hj)]; exact h2, h3, h4⟩
      · simp at hp
        subst hp
        exact ⟨i, ⟨x, true, q.gen⟩, rfl, hset, by simp, by simp⟩

theorem free_names {st : St} {i g : Int} : (st.free i g).names i g = false := by
  cases hn : st.names i g
  · rw [show st.free i g = st by simp [St.free, hn]]; exact hn
  · obtain ⟨k, q, rfl, hq, hqf, rfl⟩ := St.named hn
    have hk := (List.getElem?_eq_some_iff.1 hq).1
    rw [show st.free k q.gen = { st with pl := st.pl.set k ⟨0, false, q.gen + 1⟩, fr := st.fr ++ [k] } by simp [St.free, hn]]
    rw [names_at (q := ⟨0, false, q.gen + 1⟩) (by simp [List.getElem?_set, hk])]
    simp
theorem Once.free {st : St} {T : List (Int × Int)} {L : List Bool} (hO : Once st T L) {k : Nat} {h : Int × Int} (hk : T[k]? = some h) : Once (st.free h.1 h.2) T (L.set k false) := by
  obtain ⟨i, g⟩ := h
  have hkl : k < L.length := by rw [hO.len]; exact (List.getElem?_eq_some_iff.1 hk).1
  cases hn : st.names i g
  · have : L.set k false = L := by
      apply List.ext_getElem?
      intro j
      rw [List.getElem?_set]
      split
      · rename_i e; subst e; rw [hO.live k _ hk]; simp [hn, hkl]
      · rfl
    rw [this, show st.free i g = st by simp [St.free, hn]]
    exact hO
  · obtain ⟨a, q, rfl, hq, hqf, rfl⟩ := St.named hn
    have ha := (List.getElem?_eq_some_iff.1 hq).1
    rw [show st.free a q.gen = { st with pl := st.pl.set a ⟨0, false, q.gen + 1⟩, fr := st.fr ++ [a] } by simp [St.free, hn]]
    have hset : (st.pl.set a ⟨0, false, q.gen + 1⟩)[a]? = some ⟨0, false, q.gen + 1⟩ := by simp [List.getElem?_set, ha]
    refine ⟨by simp [hO.len], fun j p hj => ?_, fun p hp => ?_, hO.nodup⟩
    · obtain ⟨b, q', h1, h2, h3, h4⟩ := hO.past p (List.mem_of_getElem? hj)
      by_cases hjk : k = j
      · subst hjk
        rw [hk] at hj
        cases hj
        rw [List.getElem?_set, if_pos rfl, if_pos hkl]
        simp only
        rw [names_at hset]
        simp
      · rw [List.getElem?_set_ne hjk, hO.live j p hj]
        by_cases hb : b = a
        · subst hb
          rw [hq] at h2
          cases h2
          have hne : ¬ q.gen = p.2 := fun e => hjk (by
            have e1 : p = ((b : Int), q.gen) := by cases p; simp_all
            rw [e1] at hj
            exact (List.getElem?_inj (List.getElem?_eq_some_iff.1 hk).1 hO.nodup).1 (hk.trans hj.symm))
          rw [h1, names_at hq, names_at hset]
          simp [hne]
        · rw [h1, names_at h2, names_at (q := q') (by simp only; rw [List.getElem?_set_ne (Ne.symm hb)]; exact h2)]
    · obtain ⟨b, q', h1, h2, h3, h4⟩ := hO.past p hp
      by_cases hb : b = a
      · subst hb
        rw [hq] at h2
        cases h2
        exact ⟨b, ⟨0, false, q.gen + 1⟩, h1, hset, by simp; omega, by simp; omega⟩
      · exact ⟨b, q', h1, by simp only; rw [List.getElem?_set_ne (Ne.symm hb)]; exact h2, h3, h4⟩
end Go.Proofs.Ytpiennnkgbfbbaa.Arena
