/- A pool by itself: what keeps it sound, and its calls' answers then. Conditions: none. -/
import Derived.Test.YtanahddlnchioaaHpAll
namespace Go.Proofs.Ytanahddlnchioaa.Hp
open Go.ChangeShapes Go.WideShapes Go.ChangeAt Go.RowKit
set_option linter.unusedVariables false
set_option linter.unusedSimpArgs false

def cnt : List Pl → Nat
  | [] => 0
  | q :: l => (if q.full then 1 else 0) + cnt l
theorem cnt_append (a b : List Pl) : cnt (a ++ b) = cnt a + cnt b := by
  induction a with
  | nil => simp [cnt]
  | cons q l ih => simp [cnt, ih]; omega
theorem cnt_set {l : List Pl} {i : Nat} {q : Pl} (q' : Pl) (h : l[i]? = some q) : cnt (l.set i q') + (if q.full then 1 else 0) = cnt l + (if q'.full then 1 else 0) := by
  induction l generalizing i with
  | nil => simp at h
  | cons p l ih =>
    cases i with
    | zero => simp at h; subst h; simp only [List.set_cons_zero, cnt]; omega
    | succ i => simp at h; have := ih h; simp only [List.set_cons_succ, cnt]; omega
theorem cnt_le (l : List Pl) : cnt l ≤ l.length := by
  induction l with
  | nil => simp [cnt]
  | cons p l ih => simp only [cnt, List.length_cons]; split <;> omega
theorem cnt_take {l : List Pl} {k : Nat} {q : Pl} (h : l[k]? = some q) : cnt (l.take (k + 1)) = cnt (l.take k) + (if q.full then 1 else 0) := by
  rw [List.take_add_one, h, cnt_append]
  simp [cnt]
theorem hs_cnt (l : List Pl) (k : Nat) : (hs l k).length = cnt (l.take k) := by
  induction k with
  | zero => simp [hs, cnt]
  | succ k ih =>
    cases h : l[k]? with
    | none =>
      have hl : l.length ≤ k := by simpa using h
      rw [List.take_of_length_le (show l.length ≤ k + 1 by omega), ← List.take_of_length_le hl, ← ih]
      simp [hs, h, List.take_of_length_le hl]
    | some q =>
      rw [cnt_take h]
      cases hf : q.full
      · rw [hs_free h hf, ih]; simp
      · rw [hs_full h hf]; simp [ih]

structure Inv (N : Int) (st : St) : Prop where
  r1 : 1 ≤ st.room
  r2 : st.room ≤ 4096
  len : (st.pl.length : Int) ≤ st.room
  nodup : st.fr.Nodup
  free : ∀ i ∈ st.fr, ∃ q, st.pl[i]? = some q ∧ q.full = false
  count : cnt st.pl + st.fr.length = st.pl.length
  gens : ∀ q ∈ st.pl, 0 ≤ q.gen ∧ q.gen ≤ N
theorem Inv.l1 {N : Int} {st : St} (h : Inv N st) : st.pl.length ≤ 4096 := by have := h.len; have := h.r2; omega
theorem Inv.l2 {N : Int} {st : St} (h : Inv N st) : st.fr.length ≤ 4096 := by have := h.l1; have := h.count; omega
theorem Inv.new {r : Int} (h1 : 1 ≤ r) (h2 : r ≤ 4096) : Inv 0 ⟨r, [], []⟩ := ⟨h1, h2, by simp; omega, by simp, by simp, by simp [cnt], by simp⟩

structure PutR where
  st : St
  i : Int
  g : Int
  n : Int
def St.put (st : St) (x y : Int) : PutR :=
  match st.fr.getLast? with
  | some i => match st.pl[i]? with
    | some q => ⟨⟨st.room, st.pl.set i ⟨x, y, true, q.gen⟩, st.fr.dropLast⟩, i, q.gen, 0⟩
    | none => ⟨st, 0, 0, 3⟩
  | none => if (st.pl.length : Int) < st.room then ⟨⟨st.room, st.pl ++ [⟨x, y, true, 0⟩], st.fr⟩, st.pl.length, 0, 0⟩ else ⟨st, 0, 0, 3⟩

/-- The three ways of Put. -/
theorem Inv.put {N : Int} {st : St} (h : Inv N st) (x y : Int) :
    (st.fr = [] ∧ (st.pl.length : Int) = st.room ∧ st.put x y = ⟨st, 0, 0, 3⟩) ∨
    (st.fr = [] ∧ (st.pl.length : Int) < st.room ∧ st.put x y = ⟨⟨st.room, st.pl ++ [⟨x, y, true, 0⟩], []⟩, st.pl.length, 0, 0⟩) ∨
    (∃ l i q, st.fr = l ++ [i] ∧ st.pl[i]? = some q ∧ q.full = false ∧ st.put x y = ⟨⟨st.room, st.pl.set i ⟨x, y, true, q.gen⟩, l⟩, i, q.gen, 0⟩) := by
  rcases List.eq_nil_or_concat st.fr with hf | ⟨l, i, hf⟩
  · by_cases hl : (st.pl.length : Int) < st.room
    · exact .inr (.inl ⟨hf, hl, by simp [St.put, hf, hl]⟩)
    · exact .inl ⟨hf, by have := h.len; omega, by simp [St.put, hf, hl]⟩
  · rw [List.concat_eq_append] at hf
    obtain ⟨q, hq, hqf⟩ := h.free i (by simp [hf])
    exact .inr (.inr ⟨l, i, q, hf, hq, hqf, by simp [St.put, hf, hq]⟩)
theorem Inv.afterPut {N : Int} {st : St} (h : Inv N st) (hN : 0 ≤ N) (x y : Int) : Inv N (st.put x y).st := by
  rcases h.put x y with ⟨_, _, e⟩ | ⟨hf, hl, e⟩ | ⟨l, i, q, hf, hq, hqf, e⟩
  · rw [e]; exact h
  · rw [e]
    refine ⟨h.r1, h.r2, by simp; omega, by simp, by simp, ?_, ?_⟩
    · have := h.count; simp [hf] at this; simp [cnt_append, cnt, this]
    · intro q hq
      rcases List.mem_append.1 hq with hq | hq
      · exact h.gens q hq
      · simp at hq; subst hq; exact ⟨by simp, by simpa using hN⟩
  · rw [e]
    have hn := h.nodup
    rw [hf] at hn
    have hi : i ∉ l := fun hi => by
      have := (List.nodup_append.1 hn).2.2 i hi i (by simp)
      exact this rfl
    refine ⟨h.r1, h.r2, by simpa using h.len, (List.nodup_append.1 hn).1, ?_, ?_, ?_⟩
    · intro j hj
      obtain ⟨p, hp, hpf⟩ := h.free j (by simp [hf, hj])
      have hne : i ≠ j := fun e => hi (by rw [e]; exact hj)
      exact ⟨p, by simp only; rw [List.getElem?_set_ne hne]; exact hp, hpf⟩
    · have c1 := h.count
      have c2 := cnt_set ⟨x, y, true, q.gen⟩ hq
      simp [hf, hqf] at c1 c2
      simp
      omega
    · intro p hp
      rcases List.mem_or_eq_of_mem_set hp with hp | rfl
      · exact h.gens p hp
      · exact h.gens q (List.mem_of_getElem? hq)
theorem Inv.afterSet {N : Int} {st : St} (h : Inv N st) (i g x y : Int) : Inv N (st.set i g x y) := by
  cases hn : st.names i g
  · rw [show st.set i g x y = st by simp [St.set, hn]]; exact h
  obtain ⟨k, q, rfl, hq, hqf, rfl⟩ := St.named hn
  rw [show st.set k q.gen x y = { st with pl := st.pl.set k ⟨x, y, true, q.gen⟩ } by simp [St.set, hn]]
  refine ⟨h.r1, h.r2, by simpa using h.len, h.nodup, ?_, ?_, ?_⟩
  · intro j hj
    obtain ⟨p, hp, hpf⟩ := h.free j hj
    have hne : k ≠ j := fun e => by subst e; rw [hq] at hp; cases hp; rw [hqf] at hpf; cases hpf
    exact ⟨p, by simp only; rw [List.getElem?_set_ne hne]; exact hp, hpf⟩
  · have c1 := h.count
    have c2 := cnt_set ⟨x, y, true, q.gen⟩ hq
    simp [hqf] at c2
    simp
    omega
  · intro p hp
    rcases List.mem_or_eq_of_mem_set hp with hp | rfl
    · exact h.gens p hp
    · exact h.gens q (List.mem_of_getElem? hq)
theorem Inv.mono {N M : Int} {st : St} (h : Inv N st) (hM : N ≤ M) : Inv M st := ⟨h.r1, h.r2, h.len, h.nodup, h.free, h.count, fun q hq => ⟨(h.gens q hq).1, by have := (h.gens q hq).2; omega⟩⟩
theorem Inv.afterFree {N : Int} {st : St} (h : Inv N st) (i g : Int) : Inv (N + 1) (st.free i g) := by
  cases hn : st.names i g
  · rw [show st.free i g = st by simp [St.free, hn]]; exact h.mono (by omega)
  obtain ⟨k, q, rfl, hq, hqf, rfl⟩ := St.named hn
  rw [show st.free k q.gen = { st with pl := st.pl.set k ⟨0, 0, false, q.gen + 1⟩, fr := st.fr ++ [k] } by simp [St.free, hn]]
  have hk : k ∉ st.fr := fun hk => by
    obtain ⟨p, hp, hpf⟩ := h.free k hk
    rw [hq] at hp; cases hp; rw [hqf] at hpf; cases hpf
  have hkl : k < st.pl.length := (List.getElem?_eq_some_iff.1 hq).1
  refine ⟨h.r1, h.r2, by simpa using h.len, ?_, ?_, ?_, ?_⟩
  · exact List.nodup_append.2 ⟨h.nodup, by simp, by intro a ha b hb; simp at hb; subst hb; exact fun e => hk (e ▸ ha)⟩
  · intro j hj
    rcases List.mem_append.1 hj with hj | hj
    · obtain ⟨p, hp, hpf⟩ := h.free j hj
      have hne : k ≠ j := fun e => hk (by rw [e]; exact hj)
      exact ⟨p, by simp only; rw [List.getElem?_set_ne hne]; exact hp, hpf⟩
    · simp at hj; subst hj
      exact ⟨⟨0, 0, false, q.gen + 1⟩, by simp [List.getElem?_set, hkl], rfl⟩
  · have c1 := h.count
    have c2 := cnt_set ⟨0, 0, false, q.gen + 1⟩ hq
    simp [hqf] at c2
    simp
    omega
  · intro p hp
    rcases List.mem_or_eq_of_mem_set hp with hp | rfl
    · have := h.gens p hp; exact ⟨this.1, by omega⟩
    · have := h.gens q (List.mem_of_getElem? hq); exact ⟨by simp; omega, by simp; omega⟩

section
variable {w : World} {b : Nat} {O : Nat → Prop} {st : St} {N : Int}
theorem put (x y : Int) (h : Pool w b O st) (hI : Inv N st) (hO : ∀ k, O k → k < w.heap.size) :
    Calls Try.prog 21 #[.pointer (some ⟨b, 0, none⟩), .agg #[.int .i64 x, .int .i64 y]] w (IsPut (st.put x y).i (st.put x y).g (st.put x y).n (st.put x y).st b O w) := by
  have l1 := hI.l1
  have l2 := hI.l2
  rcases hI.put x y with ⟨hf, hl, e⟩ | ⟨hf, hl, e⟩ | ⟨l, i, q, hf, hq, hqf, e⟩
  · rw [e]
    exact put_full w b O st x y h l1 l2 (by simp [hf, hl]) hO
  · rw [e]
    have hr := hI.r2
    have := put_as w b O st { st with pl := st.pl ++ [⟨0, 0, false, 0⟩] } x y st.pl.length ⟨0, 0, false, 0⟩ h l1 l2 (by simp [hf]; omega) hO (fun w O h hO => next_new w b O st h l1 hf hO) (by simp) (by simp; omega)
    simpa [hf] using this
  · rw [e]
    have hc := hI.count
    have hle := hI.len
    exact put_as w b O st { st with fr := l } x y i q h l1 l2 (by simp [hf] at hc ⊢; omega) hO (fun w O h hO => next_old w b O st l i h l2 hf hO) hq l1
theorem free (i g : Int) (h : Pool w b O st) (hI : Inv N st) (hN : N ≤ 1000000000) (hO : ∀ k, O k → k < w.heap.size) :
    Calls Try.prog 30 #[.pointer (some ⟨b, 0, none⟩), .agg #[.int .i64 i, .int .i64 g]] w (IsFree (st.thing i g) (st.tgen i g) (st.err i g) (st.free i g) b O w) := by
  have l1 := hI.l1
  have l2 := hI.l2
  cases hn : st.names i g
  · rw [show st.thing i g = 0 by simp [St.thing, hn], show st.tgen i g = 0 by simp [St.tgen, hn], show st.err i g = 2 by simp [St.err, hn], show st.free i g = st by simp [St.free, hn]]
    exact free_none w b O st i g h l1 hO hn
  obtain ⟨k, q, rfl, hq, hqf, rfl⟩ := St.named hn
  have := hI.gens q (List.mem_of_getElem? hq)
  rw [show st.thing k q.gen = q.thing by simp [St.thing, hn, St.at, hq], show st.tgen k q.gen = q.tgen by simp [St.tgen, hn, St.at, hq], show st.err k q.gen = 0 by simp [St.err, hn], show st.free k q.gen = { st with pl := st.pl.set k ⟨0, 0, false, q.gen + 1⟩, fr := st.fr ++ [k] } by simp [St.free, hn]]
  exact free_some w b O st k q h l1 l2 hO hq hqf (by omega) (by omega)
theorem lens (h : Pool w b O st) (hI : Inv N st) : Calls Try.prog 47 #[.pointer (some ⟨b, 0, none⟩)] w (IsInt (cnt st.pl) w) := by
  have := len w b O st h hI.l1 hI.l2
  rwa [show ((st.pl.length : Int) - st.fr.length) = cnt st.pl by have := hI.count; omega] at this
end
end Go.Proofs.Ytanahddlnchioaa.Hp
