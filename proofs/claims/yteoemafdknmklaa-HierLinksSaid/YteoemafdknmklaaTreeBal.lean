/- A tree of red and black keys as plain data: a key that comes or goes leaves it as low as it may be. Conditions: none. -/
import Derived.Test.YteoemafdknmklaaTreePlain
namespace Go.Proofs.Yteoemafdknmklaa.Tree
set_option linter.unusedVariables false
set_option linter.unusedSimpArgs false

theorem rr_inf {T : Tr} (h : T.rr) : T.inf := by
  cases T with
  | nil => trivial
  | node b c l v i r => exact ⟨fun e => .inl (h.1 e).1, h.2⟩
theorem part_same {s : Bool} {T : Tr} (h1 : inner s T = false) (h2 : outer s T = false) : part s T = T := by simp [part, h1, h2]

set_option maxHeartbeats 4000000 in
theorem part_bal (s : Bool) (b : Nat) (c : Bool) (x : Tr) (v i : Int) (y : Tr) (hx : x.ok) (hy : y.ok) (hb : x.bh = y.bh) (rx : x.inf) (ry : y.rr) (hc : c = true → x.rr ∧ y.red = false) :
    (part s (mk s b c x v i y)).ok ∧ (part s (mk s b c x v i y)).bh = x.bh + (if c then 0 else 1) ∧ (part s (mk s b c x v i y)).inf ∧ (c = false → (part s (mk s b c x v i y)).rr) := by
  cases x with
  | nil =>
    have e : part s (mk s b c .nil v i y) = mk s b c .nil v i y := by cases s <;> simp [part, inner, outer, mk, Tr.kid, Tr.red]
    rw [e]
    cases s <;> cases c <;> simp_all [mk, Tr.ok, Tr.bh, Tr.inf, Tr.rr, Tr.red]
  | node b1 c1 l1 v1 i1 r1 =>
    cases c1 with
    | false =>
      have e : part s (mk s b c (.node b1 false l1 v1 i1 r1) v i y) = mk s b c (.node b1 false l1 v1 i1 r1) v i y := by cases s <;> simp [part, inner, outer, mk, Tr.kid, Tr.red]
      rw [e]
      cases s <;> cases c <;> simp_all [mk, Tr.ok, Tr.bh, Tr.inf, Tr.rr, Tr.red]
    | true =>
      cases l1 with
      | nil =>
        cases r1 with
        | nil => cases s <;> cases c <;> simp_all [part, inner, outer, mk, Tr.ok, Tr.bh, Tr.inf, Tr.rr, Tr.red, Tr.kid]
        | node b3 c3 l3 v3 i3 r3 =>
          cases y with
          | nil => cases s <;> cases c <;> cases c3 <;> simp_all [part, turn, inner, outer, mk, Tr.ok, Tr.bh, Tr.inf, Tr.rr, Tr.red, Tr.kid, Tr.hang, Tr.ink] <;> (try omega)
          | node b4 c4 l4 v4 i4 r4 => cases s <;> cases c <;> cases c3 <;> cases c4 <;> simp_all [part, turn, inner, outer, mk, Tr.ok, Tr.bh, Tr.inf, Tr.rr, Tr.red, Tr.kid, Tr.hang, Tr.ink] <;> (try omega)
      | node b2 c2 l2 v2 i2 r2 =>
        cases r1 with
        | nil =>
          cases y with
          | nil => cases s <;> cases c <;> cases c2 <;> simp_all [part, turn, inner, outer, mk, Tr.ok, Tr.bh, Tr.inf, Tr.rr, Tr.red, Tr.kid, Tr.hang, Tr.ink] <;> (try omega)
          | node b4 c4 l4 v4 i4 r4 => cases s <;> cases c <;> cases c2 <;> cases c4 <;> simp_all [part, turn, inner, outer, mk, Tr.ok, Tr.bh, Tr.inf, Tr.rr, Tr.red, Tr.kid, Tr.hang, Tr.ink] <;> (try omega)
        | node b3 c3 l3 v3 i3 r3 =>
          cases y with
          | nil => cases s <;> cases c <;> cases c2 <;> cases c3 <;> simp_all [part, turn, inner, outer, mk, Tr.ok, Tr.bh, Tr.inf, Tr.rr, Tr.red, Tr.kid, Tr.hang, Tr.ink] <;> (try omega)
          | node b4 c4 l4 v4 i4 r4 => cases s <;> cases c <;> cases c2 <;> cases c3 <;> cases c4 <;> simp_all [part, turn, inner, outer, mk, Tr.ok, Tr.bh, Tr.inf, Tr.rr, Tr.red, Tr.kid, Tr.hang, Tr.ink] <;> (try omega)

theorem put_bal (k : Ky) (nb : Nat) (T : Tr) (h : T.ok) (hr : T.rr) : (put k nb T).ok ∧ (put k nb T).bh = T.bh ∧ (put k nb T).inf ∧ (T.red = false → (put k nb T).rr) := by
  induction T with
  | nil => simp [put, Tr.ok, Tr.bh, Tr.inf, Tr.rr, Tr.red]
  | node b c l v i r ihl ihr =>
    obtain ⟨h1, h2, h3⟩ := h
    obtain ⟨r1, r2, r3⟩ := hr
    obtain ⟨a1, a2, a3, a4⟩ := ihl h1 r2
    obtain ⟨b1, b2, b3, b4⟩ := ihr h2 r3
    unfold put
    split
    · have := part_bal true b c (put k nb r) v i l b1 h1 (by omega) b3 r2 (fun e => ⟨b4 (r1 e).2, (r1 e).1⟩)
      simp only [mk, if_true] at this
      refine ⟨this.1, ?_, this.2.2.1, fun e => this.2.2.2 e⟩
      rw [this.2.1, b2, ← h3]; rfl
    · have := part_bal false b c (put k nb l) v i r a1 h2 (by omega) a3 r3 (fun e => ⟨a4 (r1 e).1, (r1 e).2⟩)
      simp only [mk, Bool.false_eq_true, if_false] at this
      refine ⟨this.1, ?_, this.2.2.1, fun e => this.2.2.2 e⟩
      rw [this.2.1, a2]; rfl

theorem bh_ink_false {T : Tr} : (T.ink false).red = false := by cases T <;> rfl
/-- The top is made black. -/
theorem top_bal {T : Tr} (h : T.ok) (hr : T.inf) : (T.ink false).ok ∧ (T.ink false).rr ∧ (T.ink false).red = false := by
  cases T with
  | nil => simp [Tr.ink, Tr.ok, Tr.rr, Tr.red]
  | node b c l v i r => simp_all [Tr.ink, Tr.ok, Tr.rr, Tr.red, Tr.inf]

set_option maxHeartbeats 4000000 in
theorem fillB_bal (s : Bool) (b : Nat) (c : Bool) (x : Tr) (v i : Int) (y : Tr) (hx : x.ok) (hy : y.ok) (hb : x.bh + 1 = y.bh) (rx : x.rr) (ry : y.rr) (hr : y.red = false) :
    (fillB s (mk s b c x v i y)).1.ok ∧ (fillB s (mk s b c x v i y)).1.rr ∧ (fillB s (mk s b c x v i y)).1.bh + (if (fillB s (mk s b c x v i y)).2 then 1 else 0) = y.bh + (if c then 0 else 1) ∧
    (c = false → (fillB s (mk s b c x v i y)).1.red = false) ∧ ((fillB s (mk s b c x v i y)).2 = true → c = false) := by
  cases y with
  | nil => simp [Tr.bh] at hb
  | node b1 c1 l1 v1 i1 r1 =>
    simp only [Tr.red] at hr
    subst hr
    cases l1 with
    | nil =>
      cases r1 with
      | nil => cases s <;> cases c <;> simp_all [fillB, turn, mk, Tr.ok, Tr.bh, Tr.rr, Tr.red, Tr.kid, Tr.hang, Tr.ink] <;> (try omega)
      | node b3 c3 l3 v3 i3 r3 => cases s <;> cases c <;> cases c3 <;> simp_all [fillB, turn, mk, Tr.ok, Tr.bh, Tr.rr, Tr.red, Tr.kid, Tr.hang, Tr.ink] <;> (try omega)
    | node b2 c2 l2 v2 i2 r2 =>
      cases r1 with
      | nil => cases s <;> cases c <;> cases c2 <;> simp_all [fillB, turn, mk, Tr.ok, Tr.bh, Tr.rr, Tr.red, Tr.kid, Tr.hang, Tr.ink] <;> (try omega)
      | node b3 c3 l3 v3 i3 r3 => cases s <;> cases c <;> cases c2 <;> cases c3 <;> simp_all [fillB, turn, mk, Tr.ok, Tr.bh, Tr.rr, Tr.red, Tr.kid, Tr.hang, Tr.ink] <;> (try omega)

theorem kid_mk (s : Bool) (b : Nat) (c : Bool) (x : Tr) (v i : Int) (y : Tr) : (mk s b c x v i y).kid s = x := by cases s <;> simp [mk, Tr.kid]
theorem kid_mk' (s : Bool) (b : Nat) (c : Bool) (x : Tr) (v i : Int) (y : Tr) : (mk s b c x v i y).kid (!s) = y := by cases s <;> simp [mk, Tr.kid]
theorem turn_mk (s : Bool) (b : Nat) (c : Bool) (x : Tr) (v i : Int) (u : Nat) (d : Bool) (B : Tr) (v' i' : Int) (C : Tr) :
    turn s (mk s b c x v i (mk s u d B v' i' C)) = mk s u c (mk s b true x v i B) v' i' C := by cases s <;> simp [mk, turn]
theorem hang_mk (s : Bool) (b : Nat) (c : Bool) (x : Tr) (v i : Int) (y z : Tr) : (mk s b c x v i y).hang s z = mk s b c z v i y := by cases s <;> simp [mk, Tr.hang]
theorem hang_mk' (s : Bool) (b : Nat) (c : Bool) (x : Tr) (v i : Int) (y z : Tr) : (mk s b c x v i y).hang (!s) z = mk s b c x v i z := by cases s <;> simp [mk, Tr.hang]
theorem node_mk (s : Bool) (b : Nat) (c : Bool) (l : Tr) (v i : Int) (r : Tr) : Tr.node b c l v i r = mk s b c ((Tr.node b c l v i r).kid s) v i ((Tr.node b c l v i r).kid (!s)) := by cases s <;> simp [mk, Tr.kid]
theorem ok_mk (s : Bool) (b : Nat) (c : Bool) (x : Tr) (v i : Int) (y : Tr) : (mk s b c x v i y).ok ↔ x.ok ∧ y.ok ∧ x.bh = y.bh := by cases s <;> simp [mk, Tr.ok] ; constructor <;> rintro ⟨a, b, c⟩ <;> simp_all
theorem rr_mk (s : Bool) (b : Nat) (c : Bool) (x : Tr) (v i : Int) (y : Tr) : (mk s b c x v i y).rr ↔ (c = true → x.red = false ∧ y.red = false) ∧ x.rr ∧ y.rr := by
  cases s <;> simp [mk, Tr.rr]; constructor <;> rintro ⟨a, b, c⟩ <;> simp_all
theorem bh_mk {s : Bool} {b : Nat} {c : Bool} {x : Tr} {v i : Int} {y : Tr} (h : x.bh = y.bh) : (mk s b c x v i y).bh = x.bh + (if c then 0 else 1) := by cases s <;> simp [mk, Tr.bh, h]
theorem red_mk (s : Bool) (b : Nat) (c : Bool) (x : Tr) (v i : Int) (y : Tr) : (mk s b c x v i y).red = c := by cases s <;> simp [mk, Tr.red]

theorem fill_bal (s : Bool) (b : Nat) (c : Bool) (x : Tr) (v i : Int) (y : Tr) (hx : x.ok) (hy : y.ok) (hb : x.bh + 1 = y.bh) (rx : x.rr) (ry : y.rr) (hr : c = true → y.red = false) :
    (fill s (mk s b c x v i y)).1.ok ∧ (fill s (mk s b c x v i y)).1.rr ∧ (fill s (mk s b c x v i y)).1.bh + (if (fill s (mk s b c x v i y)).2 then 1 else 0) = y.bh + (if c then 0 else 1) ∧
    (c = false → (fill s (mk s b c x v i y)).1.red = false) ∧ ((fill s (mk s b c x v i y)).2 = true → c = false) := by
  unfold fill
  rw [kid_mk']
  cases hyr : y.red
  · simp only [Bool.false_eq_true, if_false]
    exact fillB_bal s b c x v i y hx hy hb rx ry hyr
  · have hc : c = false := by cases c <;> simp_all
    subst hc
    cases y with
    | nil => simp [Tr.red] at hyr
    | node u d l v' i' r =>
      simp only [Tr.red] at hyr
      subst hyr
      rw [node_mk s u] at hy ry hb ⊢
      generalize (Tr.node u true l v' i' r).kid s = B at *
      generalize (Tr.node u true l v' i' r).kid (!s) = C at *
      rw [ok_mk] at hy
      rw [rr_mk] at ry
      rw [bh_mk hy.2.2] at hb
      simp only [if_true, Nat.add_zero, forall_const] at hb ry
      obtain ⟨k1, k2, k3, k4, k5⟩ := fillB_bal s b true x v i B hx hy.1 hb rx ry.2.1 ry.1.1
      simp only [if_true]
      rw [turn_mk, kid_mk, hang_mk]
      generalize fillB s (mk s b true x v i B) = R at *
      have e2 : R.2 = false := by cases h : R.2 <;> simp_all
      rw [e2] at k3
      simp only [Bool.false_eq_true, if_false, if_true, Nat.add_zero] at k3 ⊢
      refine ⟨?_, ?_, ?_, ?_, by simp⟩
      · rw [ok_mk]; exact ⟨k1, hy.2.1, by omega⟩
      · rw [rr_mk]; exact ⟨by simp, k2, ry.2.2⟩
      · rw [bh_mk (by omega), bh_mk hy.2.2]; simp; omega
      · rw [red_mk]; simp

theorem keys_fillB (s : Bool) (T : Tr) : (fillB s T).1.keys = T.keys := by
  unfold fillB
  simp only
  split
  · rw [keys_ink, keys_hang]; rw [keys_ink]
  · simp only
    have e : ∀ U : Tr, ((U.hang false ((U.kid false).ink false)).hang true ((U.kid true).ink false)).keys = U.keys := by
      intro U
      rw [keys_hang true, keys_hang false]
      · rw [keys_ink]
      · rw [keys_ink]; exact congrArg Tr.keys (kid_hang_other false U _).symm
    rw [e, keys_turn]
    split
    · rfl
    · rw [keys_hang]; rw [keys_turn]
theorem bl_fillB (s : Bool) (T : Tr) : (fillB s T).1.bl.Perm T.bl := by
  unfold fillB
  simp only
  split
  · rw [bl_ink]; refine bl_hang _ _ _ ?_; rw [bl_ink]
  · simp only
    have e : ∀ U : Tr, ((U.hang false ((U.kid false).ink false)).hang true ((U.kid true).ink false)).bl.Perm U.bl := by
      intro U
      refine (bl_hang true _ _ ?_).trans (bl_hang false _ _ ?_)
      · rw [bl_ink]; rw [show (U.hang false ((U.kid false).ink false)).kid true = U.kid true from kid_hang_other false U _]
      · rw [bl_ink]
    refine (e _).trans ((bl_turn _ _).trans ?_)
    split
    · exact .rfl
    · exact bl_hang _ _ _ (bl_turn _ _)
theorem keys_fill (s : Bool) (T : Tr) : (fill s T).1.keys = T.keys := by
  unfold fill
  split
  · simp only
    rw [keys_hang _ _ _ (keys_fillB _ _), keys_turn]
  · exact keys_fillB _ _
theorem bl_fill (s : Bool) (T : Tr) : (fill s T).1.bl.Perm T.bl := by
  unfold fill
  split
  · simp only
    exact (bl_hang _ _ _ (bl_fillB _ _)).trans (bl_turn _ _)
  · exact bl_fillB _ _

/-- The last key is the last one. -/
theorem end_last : ∀ {T : Tr}, T ≠ .nil → ∃ l, T.keys = l ++ [T.end]
  | .nil, h => absurd rfl h
  | .node b c l v i .nil, _ => ⟨l.keys, by simp [Tr.keys, Tr.end]⟩
  | .node b c l v i (.node b' c' l' v' i' r'), _ => by
    obtain ⟨m, hm⟩ := end_last (T := .node b' c' l' v' i' r') (by simp)
    refine ⟨l.keys ++ (v, i) :: m, ?_⟩
    rw [show (Tr.node b c l v i (.node b' c' l' v' i' r')).keys = l.keys ++ (v, i) :: (Tr.node b' c' l' v' i' r').keys from rfl, hm]
    simp [Tr.end]
theorem head_first : ∀ {T : Tr}, T ≠ .nil → ∃ l, T.keys = T.head :: l
  | .nil, h => absurd rfl h
  | .node b c .nil v i r, _ => ⟨r.keys, by simp [Tr.keys, Tr.head]⟩
  | .node b c (.node b' c' l' v' i' r') v i r, _ => by
    obtain ⟨m, hm⟩ := head_first (T := .node b' c' l' v' i' r') (by simp)
    refine ⟨m ++ (v, i) :: r.keys, ?_⟩
    rw [show (Tr.node b c (.node b' c' l' v' i' r') v i r).keys = (Tr.node b' c' l' v' i' r').keys ++ (v, i) :: r.keys from rfl, hm]
    simp [Tr.head]
theorem end_mem {T : Tr} (h : T ≠ .nil) : T.end ∈ T.keys := by
  obtain ⟨l, e⟩ := end_last h
  rw [e]; simp

/-- All but one key. -/
def but (k : Ky) (l : List Ky) : List Ky := l.filter fun x => decide (x ≠ k)
theorem but_none {k : Ky} {l : List Ky} (h : k ∉ l) : but k l = l := by
  unfold but
  rw [List.filter_eq_self]
  intro x hx
  simp
  rintro rfl
  exact h hx
theorem but_append (k : Ky) (l r : List Ky) : but k (l ++ r) = but k l ++ but k r := by simp [but]
theorem but_cons (k x : Ky) (r : List Ky) : but k (x :: r) = if x = k then but k r else x :: but k r := by
  unfold but
  rw [List.filter_cons]
  by_cases h : x = k <;> simp [h]
theorem not_mem_of_lt {k : Ky} {l : List Ky} (h : ∀ y ∈ l, lt k y) : k ∉ l := fun hk => lt_irrefl k (h k hk)
theorem not_mem_of_gt {k : Ky} {l : List Ky} (h : ∀ y ∈ l, lt y k) : k ∉ l := fun hk => lt_irrefl k (h k hk)

theorem keys_take (T : Tr) : ∀ k, Sorted T.keys → k ∈ T.keys → (take T k).1.keys = but k T.keys := by
  induction T with
  | nil => intro k _ hk; simp [Tr.keys] at hk
  | node b c l v i r ihl ihr =>
    intro k hs hk
    obtain ⟨s1, s2, s3, s4⟩ := sorted_node hs
    simp only [Tr.keys]
    rw [but_append, but_cons]
    unfold take
    by_cases e : (v, i) = k
    · subst e
      rw [if_pos rfl, if_pos rfl, but_none (not_mem_of_gt s3), but_none (not_mem_of_lt s4)]
      cases l with
      | nil =>
        simp only [without, Tr.keys, List.nil_append]
        split
        · simp only [keys_ink]
        · rfl
      | node b' c' l' v' i' r' =>
        obtain ⟨m, hm⟩ := end_last (T := .node b' c' l' v' i' r') (by simp)
        have k1 := ihl (Tr.node b' c' l' v' i' r').end s1 (end_mem (by simp))
        simp only
        generalize Tr.node b' c' l' v' i' r' = L at *
        have k2 : but L.end L.keys = m := by
          rw [hm, but_append, but_cons, if_pos rfl]
          have : L.end ∉ m := by
            intro h
            rw [hm] at s1
            unfold Sorted at s1
            rw [List.pairwise_append] at s1
            exact lt_irrefl _ (s1.2.2 _ h _ (by simp))
          rw [but_none this]; simp [but]
        split
        · rw [keys_fill]
          simp only [Tr.keys, k1, k2]
          rw [hm]; simp
        · simp only [Tr.keys, k1, k2]
          rw [hm]; simp
    · rw [if_neg e, if_neg e]
      by_cases h : lt (v, i) k
      · rw [if_pos (by simp [side, h])]
        have hl : k ∉ l.keys := fun h2 => lt_asymm h (s3 k h2)
        have hr : k ∈ r.keys := by
          simp only [Tr.keys, List.mem_append, List.mem_cons] at hk
          rcases hk with hk | hk | hk
          · exact absurd hk hl
          · exact absurd hk.symm e
          · exact hk
        rw [but_none hl]
        simp only
        split
        · rw [keys_fill]; simp only [Tr.keys, ihr k s2 hr]
        · simp only [Tr.keys, ihr k s2 hr]
      · rw [if_neg (by simp [side, h])]
        have hr : k ∉ r.keys := fun h2 => h (s4 k h2)
        have hl : k ∈ l.keys := by
          simp only [Tr.keys, List.mem_append, List.mem_cons] at hk
          rcases hk with hk | hk | hk
          · exact hk
          · exact absurd hk.symm e
          · exact absurd hk hr
        rw [but_none hr]
        simp only
        split
        · rw [keys_fill]; simp only [Tr.keys, ihl k s1 hl]
        · simp only [Tr.keys, ihl k s1 hl]

theorem bl_take (T : Tr) : ∀ k, Sorted T.keys → k ∈ T.keys → ∃ d, (d :: (take T k).1.bl).Perm T.bl := by
  induction T with
  | nil => intro k _ hk; simp [Tr.keys] at hk
  | node b c l v i r ihl ihr =>
    intro k hs hk
    obtain ⟨s1, s2, s3, s4⟩ := sorted_node hs
    unfold take
    have kl : ∀ d (X : Tr) (v' i' : Int), (d :: X.bl).Perm l.bl → (d :: (Tr.node b c X v' i' r).bl).Perm (Tr.node b c l v i r).bl := by
      intro d X v' i' h
      simp only [Tr.bl]
      rw [List.perm_iff_count] at h ⊢
      intro x
      have := h x
      simp [List.count_cons, List.count_append] at this ⊢
      omega
    have kr : ∀ d (X : Tr), (d :: X.bl).Perm r.bl → (d :: (Tr.node b c l v i X).bl).Perm (Tr.node b c l v i r).bl := by
      intro d X h
      simp only [Tr.bl]
      rw [List.perm_iff_count] at h ⊢
      intro x
      have := h x
      simp [List.count_cons, List.count_append] at this ⊢
      omega
    by_cases e : (v, i) = k
    · subst e
      rw [if_pos rfl]
      cases l with
      | nil =>
        refine ⟨b, ?_⟩
        simp only [without, Tr.bl, List.nil_append]
        split
        · simp only [bl_ink]; exact .rfl
        · exact .rfl
      | node b' c' l' v' i' r' =>
        obtain ⟨d, hd⟩ := ihl (Tr.node b' c' l' v' i' r').end s1 (end_mem (by simp))
        refine ⟨d, ?_⟩
        simp only
        split
        · exact ((bl_fill _ _).cons _).trans (kl d _ _ _ hd)
        · exact kl d _ _ _ hd
    · rw [if_neg e]
      by_cases h : lt (v, i) k
      · rw [if_pos (by simp [side, h])]
        have hr : k ∈ r.keys := by
          simp only [Tr.keys, List.mem_append, List.mem_cons] at hk
          rcases hk with hk | hk | hk
          · exact absurd (s3 k hk) (lt_asymm h)
          · exact absurd hk.symm e
          · exact hk
        obtain ⟨d, hd⟩ := ihr k s2 hr
        refine ⟨d, ?_⟩
        simp only
        split
        · exact ((bl_fill _ _).cons _).trans (kr d _ hd)
        · exact kr d _ hd
      · rw [if_neg (by simp [side, h])]
        have hl : k ∈ l.keys := by
          simp only [Tr.keys, List.mem_append, List.mem_cons] at hk
          rcases hk with hk | hk | hk
          · exact hk
          · exact absurd hk.symm e
          · exact absurd (s4 k hk) h
        obtain ⟨d, hd⟩ := ihl k s1 hl
        refine ⟨d, ?_⟩
        simp only
        split
        · exact ((bl_fill _ _).cons _).trans (kl d _ _ _ hd)
        · exact kl d _ _ _ hd

theorem take_bal (T : Tr) : ∀ k, T.ok → T.rr → k ∈ T.keys → Sorted T.keys →
    (take T k).1.ok ∧ (take T k).1.rr ∧ (take T k).1.bh + (if (take T k).2 then 1 else 0) = T.bh ∧ (T.red = false → (take T k).1.red = false) ∧ ((take T k).2 = true → T.red = false) := by
  induction T with
  | nil => intro k _ _ hk; simp [Tr.keys] at hk
  | node b c l v i r ihl ihr =>
    intro k ho hr hk hs
    obtain ⟨s1, s2, s3, s4⟩ := sorted_node hs
    obtain ⟨o1, o2, o3⟩ := ho
    obtain ⟨r1, r2, r3⟩ := hr
    have L : ∀ (X : Tr) (less : Bool) (v' i' : Int), X.ok → X.rr → X.bh + (if less then 1 else 0) = l.bh → (l.red = false → X.red = false) →
        (if less then fill false (.node b c X v' i' r) else (.node b c X v' i' r, false)).1.ok ∧ (if less then fill false (.node b c X v' i' r) else (.node b c X v' i' r, false)).1.rr ∧
        (if less then fill false (.node b c X v' i' r) else (.node b c X v' i' r, false)).1.bh + (if (if less then fill false (.node b c X v' i' r) else (.node b c X v' i' r, false)).2 then 1 else 0) = (Tr.node b c l v i r).bh ∧
        ((Tr.node b c l v i r).red = false → (if less then fill false (.node b c X v' i' r) else (.node b c X v' i' r, false)).1.red = false) ∧
        ((if less then fill false (.node b c X v' i' r) else (.node b c X v' i' r, false)).2 = true → (Tr.node b c l v i r).red = false) := by
      intro X less v' i' x1 x2 x3 x4
      cases less
      · simp only [Bool.false_eq_true, if_false, Nat.add_zero] at x3 ⊢
        refine ⟨⟨x1, o2, by omega⟩, ⟨fun e => ⟨x4 (r1 e).1, (r1 e).2⟩, x2, r3⟩, by simp [Tr.bh, x3], fun e => e, by simp⟩
      · simp only [if_true] at x3 ⊢
        have := fill_bal false b c X v' i' r x1 o2 (by omega) x2 r3 (fun e => (r1 e).2)
        simp only [mk, Bool.false_eq_true, if_false] at this
        obtain ⟨f1, f2, f3, f4, f5⟩ := this
        exact ⟨f1, f2, by rw [f3, ← o3]; rfl, f4, f5⟩
    have R : ∀ (X : Tr) (less : Bool), X.ok → X.rr → X.bh + (if less then 1 else 0) = r.bh → (r.red = false → X.red = false) →
        (if less then fill true (.node b c l v i X) else (.node b c l v i X, false)).1.ok ∧ (if less then fill true (.node b c l v i X) else (.node b c l v i X, false)).1.rr ∧
        (if less then fill true (.node b c l v i X) else (.node b c l v i X, false)).1.bh + (if (if less then fill true (.node b c l v i X) else (.node b c l v i X, false)).2 then 1 else 0) = (Tr.node b c l v i r).bh ∧
        ((Tr.node b c l v i r).red = false → (if less then fill true (.node b c l v i X) else (.node b c l v i X, false)).1.red = false) ∧
        ((if less then fill true (.node b c l v i X) else (.node b c l v i X, false)).2 = true → (Tr.node b c l v i r).red = false) := by
      intro X less x1 x2 x3 x4
      cases less
      · simp only [Bool.false_eq_true, if_false, Nat.add_zero] at x3 ⊢
        refine ⟨⟨o1, x1, by omega⟩, ⟨fun e => ⟨(r1 e).1, x4 (r1 e).2⟩, r2, x2⟩, by simp [Tr.bh], fun e => e, by simp⟩
      · simp only [if_true] at x3 ⊢
        have := fill_bal true b c X v i l x1 o1 (by omega) x2 r2 (fun e => (r1 e).1)
        simp only [mk, if_true] at this
        obtain ⟨f1, f2, f3, f4, f5⟩ := this
        exact ⟨f1, f2, by rw [f3]; rfl, f4, f5⟩
    unfold take
    by_cases e : (v, i) = k
    · subst e
      rw [if_pos rfl]
      cases l with
      | nil =>
        simp only [without]
        cases r with
        | nil => cases c <;> simp_all [Tr.red, Tr.ok, Tr.rr, Tr.bh]
        | node b' c' l' v' i' r' => cases c <;> cases c' <;> simp_all [Tr.red, Tr.ok, Tr.rr, Tr.bh, Tr.ink]
      | node b' c' l' v' i' r' =>
        obtain ⟨k1, k2, k3, k4, k5⟩ := ihl (Tr.node b' c' l' v' i' r').end o1 r2 (end_mem (by simp)) s1
        exact L _ _ _ _ k1 k2 k3 k4
    · rw [if_neg e]
      by_cases h : lt (v, i) k
      · rw [if_pos (by simp [side, h])]
        have hr : k ∈ r.keys := by
          simp only [Tr.keys, List.mem_append, List.mem_cons] at hk
          rcases hk with hk | hk | hk
          · exact absurd (s3 k hk) (lt_asymm h)
          · exact absurd hk.symm e
          · exact hk
        obtain ⟨k1, k2, k3, k4, k5⟩ := ihr k o2 r3 hr s2
        exact R _ _ k1 k2 k3 k4
      · rw [if_neg (by simp [side, h])]
        have hl : k ∈ l.keys := by
          simp only [Tr.keys, List.mem_append, List.mem_cons] at hk
          rcases hk with hk | hk | hk
          · exact hk
          · exact absurd hk.symm e
          · exact absurd (s4 k hk) h
        obtain ⟨k1, k2, k3, k4, k5⟩ := ihl k o1 r2 hl s1
        exact L _ _ _ _ k1 k2 k3 k4
end Go.Proofs.Yteoemafdknmklaa.Tree
