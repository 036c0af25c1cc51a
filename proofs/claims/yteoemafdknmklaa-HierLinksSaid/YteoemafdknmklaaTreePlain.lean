/- A tree of red and black keys as plain data: how a key comes and goes, what stays in order, and how low it is. Conditions: none. -/
import Derived.Test.YteoemafdknmklaaRows
namespace Go.Proofs.Yteoemafdknmklaa.Tree
set_option linter.unusedVariables false
set_option linter.unusedSimpArgs false

/-- A tree: each node at its block, red or not. -/
inductive Tr where
  | nil
  | node (b : Nat) (c : Bool) (l : Tr) (v i : Int) (r : Tr)

abbrev Ky := Int × Int
/-- One key is ahead of another one. -/
def lt (a b : Ky) : Prop := a.1 < b.1 ∨ a.1 = b.1 ∧ a.2 < b.2
instance (a b : Ky) : Decidable (lt a b) := by unfold lt; exact inferInstance
theorem lt_irrefl (a : Ky) : ¬ lt a a := by unfold lt; omega
theorem lt_trans {a b c : Ky} (h : lt a b) (k : lt b c) : lt a c := by unfold lt at *; omega
theorem lt_asymm {a b : Ky} (h : lt a b) : ¬ lt b a := by unfold lt at *; omega
theorem lt_tri (a b : Ky) : lt a b ∨ a = b ∨ lt b a := by
  obtain ⟨x, y⟩ := a
  obtain ⟨u, v⟩ := b
  simp only [lt, Prod.mk.injEq]
  omega
theorem lt_ne {a b : Ky} (h : lt a b) : a ≠ b := fun e => lt_irrefl b (e ▸ h)

def Tr.at : Tr → Option Addr
  | .nil => none
  | .node b _ _ _ _ _ => some ⟨b, 0, none⟩
def Tr.red : Tr → Bool
  | .nil => false
  | .node _ c _ _ _ _ => c
def Tr.bl : Tr → List Nat
  | .nil => []
  | .node b _ l _ _ r => b :: (l.bl ++ r.bl)
def Tr.keys : Tr → List Ky
  | .nil => []
  | .node _ _ l v i r => l.keys ++ (v, i) :: r.keys
/-- What stands on a side: true is the right one. -/
def Tr.kid : Tr → Bool → Tr
  | .nil, _ => .nil
  | .node _ _ l _ _ r, s => if s then r else l
/-- A node with x on the side s and y on the other one. -/
def mk (s : Bool) (b : Nat) (c : Bool) (x : Tr) (v i : Int) (y : Tr) : Tr := if s then .node b c y v i x else .node b c x v i y
def Tr.ink : Tr → Bool → Tr
  | .nil, _ => .nil
  | .node b _ l v i r, c => .node b c l v i r
def Tr.hang : Tr → Bool → Tr → Tr
  | .nil, _, _ => .nil
  | .node b c l v i r, s, x => if s then .node b c l v i x else .node b c x v i r

def turn (s : Bool) : Tr → Tr
  | .nil => .nil
  | .node b c l v i r =>
    match s, l, r with
    | false, l, .node u _ B v' i' C => .node u c (.node b true l v i B) v' i' C
    | true, .node u _ C v' i' B, r => .node u c C v' i' (.node b true B v i r)
    | _, l, r => .node b c l v i r

def inner (s : Bool) (T : Tr) : Bool := (T.kid s).red && ((T.kid s).kid (!s)).red
def outer (s : Bool) (T : Tr) : Bool := (T.kid s).red && ((T.kid s).kid s).red
def part (s : Bool) (T : Tr) : Tr :=
  if inner s T = false ∧ outer s T = false then T
  else if (T.kid (!s)).red then ((T.hang s ((T.kid s).ink false)).hang (!s) ((T.kid (!s)).ink false)).ink true
  else turn (!s) (if inner s T then T.hang s (turn s (T.kid s)) else T)

def side (k x : Ky) : Bool := decide (lt x k)
def put (k : Ky) (nb : Nat) : Tr → Tr
  | .nil => .node nb true .nil k.1 k.2 .nil
  | .node b c l v i r =>
    if side k (v, i) then part true (.node b c l v i (put k nb r)) else part false (.node b c (put k nb l) v i r)

/-- The last key. -/
def Tr.end : Tr → Ky
  | .nil => (0, 0)
  | .node _ _ _ v i .nil => (v, i)
  | .node _ _ _ _ _ (.node b c l v i r) => (Tr.node b c l v i r).end
/-- The first key. -/
def Tr.head : Tr → Ky
  | .nil => (0, 0)
  | .node _ _ .nil v i _ => (v, i)
  | .node _ _ (.node b c l v i r) _ _ _ => (Tr.node b c l v i r).head

/-- Where the other side is black, and not nothing. -/
def fillB (s : Bool) (T : Tr) : Tr × Bool :=
  let o := T.kid (!s)
  if o.red = false ∧ (o.kid false).red = false ∧ (o.kid true).red = false then ((T.hang (!s) (o.ink true)).ink false, !T.red)
  else
    let U := turn s (if (o.kid (!s)).red then T else T.hang (!s) (turn (!s) o))
    ((U.hang false ((U.kid false).ink false)).hang true ((U.kid true).ink false), false)
def fill (s : Bool) (T : Tr) : Tr × Bool :=
  if (T.kid (!s)).red then
    let U := turn s T
    (U.hang s (fillB s (U.kid s)).1, false)
  else fillB s T
def without : Tr → Tr × Bool
  | .nil => (.nil, false)
  | .node _ c _ _ _ r => if r.red then (r.ink false, false) else (r, !c)
def take : Tr → Ky → Tr × Bool
  | .nil, _ => (.nil, false)
  | .node b c l v i r, k =>
    if (v, i) = k then
      match l with
      | .nil => without (.node b c .nil v i r)
      | .node b' c' l' v' i' r' =>
        let x := take (.node b' c' l' v' i' r') (Tr.node b' c' l' v' i' r').end
        let T := Tr.node b c x.1 (Tr.node b' c' l' v' i' r').end.1 (Tr.node b' c' l' v' i' r').end.2 r
        if x.2 then fill false T else (T, false)
    else if side k (v, i) then
      let x := take r k
      let T := Tr.node b c l v i x.1
      if x.2 then fill true T else (T, false)
    else
      let x := take l k
      let T := Tr.node b c x.1 v i r
      if x.2 then fill false T else (T, false)

/-! ### what stays -/
def Tr.bh : Tr → Nat
  | .nil => 0
  | .node _ c l _ _ _ => l.bh + (if c then 0 else 1)
def Tr.ok : Tr → Prop
  | .nil => True
  | .node _ _ l _ _ r => l.ok ∧ r.ok ∧ l.bh = r.bh
def Tr.rr : Tr → Prop
  | .nil => True
  | .node _ c l _ _ r => (c = true → l.red = false ∧ r.red = false) ∧ l.rr ∧ r.rr
/-- Red on top of one red one at most. -/
def Tr.inf : Tr → Prop
  | .nil => True
  | .node _ c l _ _ r => (c = true → l.red = false ∨ r.red = false) ∧ l.rr ∧ r.rr

def Sorted (l : List Ky) : Prop := l.Pairwise lt

theorem keys_ink (T : Tr) (c : Bool) : (T.ink c).keys = T.keys := by cases T <;> rfl
theorem bl_ink (T : Tr) (c : Bool) : (T.ink c).bl = T.bl := by cases T <;> rfl
theorem at_ink (T : Tr) (c : Bool) : (T.ink c).at = T.at := by cases T <;> rfl
theorem keys_turn (s : Bool) (T : Tr) : (turn s T).keys = T.keys := by
  cases T with
  | nil => rfl
  | node b c l v i r => cases s <;> cases l <;> cases r <;> simp [turn, Tr.keys]
theorem bl_turn (s : Bool) (T : Tr) : (turn s T).bl.Perm T.bl := by
  cases T with
  | nil => exact .rfl
  | node b c l v i r =>
    cases s <;> cases l <;> cases r <;> simp only [turn, Tr.bl, List.Perm.refl, List.nil_append, List.append_nil]
    all_goals (rw [List.perm_iff_count]; intro x; simp [List.count_cons, List.count_append]; try omega)
theorem keys_hang (s : Bool) (T X : Tr) (h : X.keys = (T.kid s).keys) : (T.hang s X).keys = T.keys := by
  cases T with
  | nil => rfl
  | node b c l v i r => cases s <;> simp [Tr.hang, Tr.keys, Tr.kid] at * <;> simp [h]
theorem bl_hang (s : Bool) (T X : Tr) (h : X.bl.Perm (T.kid s).bl) : (T.hang s X).bl.Perm T.bl := by
  cases T with
  | nil => exact .rfl
  | node b c l v i r =>
    cases s <;> simp only [Tr.hang, Tr.bl, Tr.kid, if_true, if_false, Bool.false_eq_true] at *
    · exact (h.append_right _).cons _
    · exact (h.append_left _).cons _
theorem kid_hang_same (s : Bool) (T X : Tr) (h : T ≠ .nil) : (T.hang s X).kid s = X := by
  cases T with
  | nil => exact absurd rfl h
  | node b c l v i r => cases s <;> simp [Tr.hang, Tr.kid]
theorem kid_hang_other (s : Bool) (T X : Tr) : (T.hang s X).kid (!s) = T.kid (!s) := by
  cases T with
  | nil => rfl
  | node b c l v i r => cases s <;> simp [Tr.hang, Tr.kid]
theorem keys_part (s : Bool) (T : Tr) : (part s T).keys = T.keys := by
  unfold part
  split
  · rfl
  · split
    · rw [keys_ink, keys_hang, keys_hang]
      · rw [keys_ink]
      · rw [keys_ink, kid_hang_other]
    · rw [keys_turn]
      split
      · rw [keys_hang]; rw [keys_turn]
      · rfl
theorem bl_part (s : Bool) (T : Tr) : (part s T).bl.Perm T.bl := by
  unfold part
  split
  · exact .rfl
  · split
    · rw [bl_ink]
      refine (bl_hang _ _ _ ?_).trans (bl_hang _ _ _ ?_)
      · rw [bl_ink, kid_hang_other]
      · rw [bl_ink]
    · refine (bl_turn _ _).trans ?_
      split
      · exact bl_hang _ _ _ (bl_turn _ _)
      · exact .rfl

/-- A key put into a row of keys. -/
def ins (k : Ky) : List Ky → List Ky
  | [] => [k]
  | x :: l => if lt k x then k :: x :: l else x :: ins k l
theorem mem_ins {k x : Ky} {l : List Ky} : x ∈ ins k l ↔ x = k ∨ x ∈ l := by
  induction l with
  | nil => simp [ins]
  | cons y l ih =>
    unfold ins
    split
    · simp
    · simp [ih]; constructor <;> rintro (h | h | h) <;> simp [h]
theorem ins_left {k x : Ky} {l r : List Ky} (h : lt k x) : ins k (l ++ x :: r) = ins k l ++ x :: r := by
  induction l with
  | nil => simp [ins, h]
  | cons y l ih =>
    simp only [List.cons_append, ins]
    split
    · rfl
    · rw [ih]; rfl
theorem ins_right {k x : Ky} {l r : List Ky} (h : ¬ lt k x) (hl : ∀ y ∈ l, lt y x) : ins k (l ++ x :: r) = l ++ x :: ins k r := by
  induction l with
  | nil => simp [ins, h]
  | cons y l ih =>
    simp only [List.cons_append, ins]
    have h1 : ¬ lt k y := fun h2 => h (lt_trans h2 (hl y (by simp)))
    rw [if_neg h1, ih (fun z hz => hl z (by simp [hz]))]
theorem sorted_ins {k : Ky} {l : List Ky} (h : Sorted l) (hk : k ∉ l) : Sorted (ins k l) := by
  induction l with
  | nil => simp [ins, Sorted]
  | cons y l ih =>
    unfold Sorted at *
    rw [List.pairwise_cons] at h
    unfold ins
    split
    · rename_i h1
      rw [List.pairwise_cons]
      refine ⟨fun z hz => ?_, List.pairwise_cons.2 h⟩
      rcases List.mem_cons.1 hz with rfl | hz
      · exact h1
      · exact lt_trans h1 (h.1 z hz)
    · rename_i h1
      rw [List.pairwise_cons]
      refine ⟨fun z hz => ?_, ih h.2 (fun h2 => hk (by simp [h2]))⟩
      rcases mem_ins.1 hz with rfl | hz
      · rcases lt_tri z y with h2 | h2 | h2
        · exact absurd h2 h1
        · exact absurd (by simp [h2]) hk
        · exact h2
      · exact h.1 z hz

theorem sorted_node {l r : List Ky} {x : Ky} (h : Sorted (l ++ x :: r)) : Sorted l ∧ Sorted r ∧ (∀ y ∈ l, lt y x) ∧ (∀ y ∈ r, lt x y) := by
  unfold Sorted at *
  rw [List.pairwise_append, List.pairwise_cons] at h
  exact ⟨h.1, h.2.1.2, fun y hy => h.2.2 y hy x (by simp), h.2.1.1⟩

theorem keys_put (k : Ky) (nb : Nat) (T : Tr) (hs : Sorted T.keys) (hk : k ∉ T.keys) : (put k nb T).keys = ins k T.keys := by
  induction T with
  | nil => simp [put, Tr.keys, ins]
  | node b c l v i r ihl ihr =>
    obtain ⟨s1, s2, s3, s4⟩ := sorted_node hs
    simp only [Tr.keys, List.mem_append, List.mem_cons, not_or] at hk
    unfold put
    by_cases h : lt (v, i) k
    · rw [if_pos (by simp [side, h]), keys_part]
      simp only [Tr.keys]
      rw [ihr s2 hk.2.2, ins_right (lt_asymm h) s3]
    · rw [if_neg (by simp [side, h]), keys_part]
      simp only [Tr.keys]
      rw [ihl s1 hk.1]
      rcases lt_tri k (v, i) with h1 | h1 | h1
      · rw [ins_left h1]
      · exact absurd h1 hk.2.1
      · exact absurd h1 h
theorem bl_put (k : Ky) (nb : Nat) (T : Tr) : (put k nb T).bl.Perm (nb :: T.bl) := by
  induction T with
  | nil => exact .rfl
  | node b c l v i r ihl ihr =>
    unfold put
    split
    · refine (bl_part _ _).trans ?_
      simp only [Tr.bl]
      refine ((ihr.append_left _).cons _).trans ?_
      rw [List.perm_iff_count]; intro x; simp [List.count_cons, List.count_append]; omega
    · refine (bl_part _ _).trans ?_
      simp only [Tr.bl]
      refine ((ihl.append_right _).cons _).trans ?_
      rw [List.perm_iff_count]; intro x; simp [List.count_cons, List.count_append]; omega
end Go.Proofs.Yteoemafdknmklaa.Tree
