/- A tree of red and black keys as plain data: how a key comes and goes, what stays in order, and how low it is. Conditions: none. -/
import Derived.Test.YtnnjbonejbmgdaaGreatRows
import Derived.WalkKit
import Derived.ProofKit
import Derived.OpenShut
import Derived.Below
import Derived.Handy
import Derived.IntWalk
import Derived.Deep.QuietTactic
import Derived.BigQuiet
import Derived.Deep.AppendLies
import Derived.Lib.Hide
import Derived.LoopTactic
import Derived.Deep.LoopGhost
import Derived.Deep.RegionWith
import Derived.WalkMore
import Derived.WalkSmall
import Derived.Maps.OwnSet
import Derived.BigRegion
import Derived.Deep.Cut
namespace Go.Proofs.YtnnjbonejbmgdaaGreat.Tree
set_option linter.unusedVariables false
set_option linter.unusedSimpArgs false

/-- A tree: each node at its block, red or not. -/
inductive Tr where
  | nil
  | node (b : Nat) (c : Bool) (l : Tr) (v i : Int) (r : Tr)

abbrev Ky := Int × Int
/-- One key is ahead of another one. -/
def lt (a b : Ky) : Prop := a.1 < b.1 ∨ a.1 = b.1 ∧ a.2 < b.2
instance (a b : Ky) : Decidable (lt a b) := by unfold lt; exact inferInstance
theorem lt_irrefl (a : Ky) : ¬ lt a a := by unfold lt; omega
theorem lt_trans {a b c : Ky} (h : lt a b) (k : lt b c) : lt a c := by unfold lt at *; omega
theorem lt_asymm {a b : Ky} (h : lt a b) : ¬ lt b a := by unfold lt at *; omega
theorem lt_tri (a b : Ky) : lt a b ∨ a = b ∨ lt b a := by
  obtain ⟨x, y⟩ := a
  obtain ⟨u, v⟩ := b
  simp only [lt, Prod.mk.injEq]
  omega
theorem lt_ne {a b : Ky} (h : lt a b) : a ≠ b := fun e => lt_irrefl b (e ▸ h)

def Tr.at : Tr → Option Addr
  | .nil => none
  | .node b _ _ _ _ _ => some ⟨b, 0, none⟩
def Tr.red : Tr → Bool
  | .nil => false
  | .node _ c _ _ _ _ => c
def Tr.bl : Tr → List Nat
  | .nil => []
  | .node b _ l _ _ r => b :: (l.bl ++ r.bl)
def Tr.keys : Tr → List Ky
  | .nil => []
  | .node _ _ l v i r => l.keys ++ (v, i) :: r.keys
/-- What stands on a side: true is the right one. -/
def Tr.kid : Tr → Bool → Tr
  | .nil, _ => .nil
  | .node _ _ l _ _ r, s => if s then r else l
/-- A node with x on the side s and y on the other one. -/
def mk (s : Bool) (b : Nat) (c : Bool) (x : Tr) (v i : Int) (y : Tr) : Tr := if s then .node b c y v i x else .node b c x v i y
def Tr.ink : Tr → Bool → Tr
  | .nil, _ => .nil
  | .node b _ l v i r, c => .node b c l v i r
def Tr.hang : Tr → Bool → Tr → Tr
  | .nil, _, _ => .nil
  | .node b c l v i r, s, x => if s then .node b c l v i x else .node b c x v i r

def turn (s : Bool) : Tr → Tr
  | .nil => .nil
  | .node b c l v i r =>
    match s, l, r with
    | false, l, .node u _ B v' i' C => .node u c (.node b true l v i B) v' i' C
    | true, .node u _ C v' i' B, r => .node u c C v' i' (.node b true B v i r)
    | _, l, r => .node b c l v i r

def inner (s : Bool) (T : Tr) : Bool := (T.kid s).red && ((T.kid s).kid (!s)).red
def outer (s : Bool) (T : Tr) : Bool := (T.kid s).red && ((T.kid s).kid s).red
def part (s : Bool) (T : Tr) : Tr :=
  if inner s T = false ∧ outer s T = false then T
  else if (T.kid (!s)).red then ((T.hang s ((T.kid s).ink false)).hang (!s) ((T.kid (!s)).ink false)).ink true
  else turn (!s) (if inner s T then T.hang s (turn s (T.kid s)) else T)

def side (k x : Ky) : Bool := decide (lt x k)
def put (k : Ky) (nb : Nat) : Tr → Tr
  | .nil => .node nb true .nil k.1 k.2 .nil
  | .node b c l v i r =>
    if side k (v, i) then part true (.node b c l v i (put k nb r)) else part false (.node b c (put k nb l) v i r)

/-- The last key. -/
def Tr.end : Tr → Ky
  | .nil => (0, 0)
  | .node _ _ _ v i .nil => (v, i)
  | .node _ _ _ _ _ (.node b c l v i r) => (Tr.node b c l v i r).end
/-- The first key. -/
def Tr.head : Tr → Ky
  | .nil => (0, 0)
  | .node _ _ .nil v i _ => (v, i)
  | .node _ _ (.node b c l v i r) _ _ _ => (Tr.node b c l v i r).head

/-- Where the other side is black, and not nothing. -/
def fillB (s : Bool) (T : Tr) : Tr × Bool :=
  let o := T.kid (!s)
  if o.red = false ∧ (o.kid false).red = false ∧ (o.kid true).red = false then ((T.hang (!s) (o.ink true)).ink false, !T.red)
  else
    let U := turn s (if (o.kid (!s)).red then T else T.hang (!s) (turn (!s) o))
    ((U.hang false ((U.kid false).ink false)).hang true ((U.kid true).ink false), false)
def fill (s : Bool) (T : Tr) : Tr × Bool :=
  if (T.kid (!s)).red then
    let U := turn s T
    (U.hang s (fillB s (U.kid s)).1, false)
  else fillB s T
def without : Tr → Tr × Bool
  | .nil => (.nil, false)
  | .node _ c _ _ _ r => if r.red then (r.ink false, false) else (r, !c)
def take : Tr → Ky → Tr × Bool
  | .nil, _ => (.nil, false)
  | .node b c l v i r, k =>
    if (v, i) = k then
      match l with
      | .nil => without (.node b c .nil v i r)
      | .node b' c' l' v' i' r' =>
        let x := take (.node b' c' l' v' i' r') (Tr.node b' c' l' v' i' r').end
        let T := Tr.node b c x.1 (Tr.node b' c' l' v' i' r').end.1 (Tr.node b' c' l' v' i' r').end.2 r
        if x.2 then fill false T else (T, false)
    else if side k (v, i) then
      let x := take r k
      let T := Tr.node b c l v i x.1
      if x.2 then fill true T else (T, false)
    else
      let x := take l k
      let T := Tr.node b c x.1 v i r
      if x.2 then fill false T else (T, false)

/-! ### what stays -/
def Tr.bh : Tr → Nat
  | .nil => 0
  | .node _ c l _ _ _ => l.bh + (if c then 0 else 1)
def Tr.ok : Tr → Prop
  | .nil => True
  | .node _ _ l _ _ r => l.ok ∧ r.ok ∧ l.bh = r.bh
def Tr.rr : Tr → Prop
  | .nil => True
  | .node _ c l _ _ r => (c = true → l.red = false ∧ r.red = false) ∧ l.rr ∧ r.rr
/-- Red on top of one red one at most. -/
def Tr.inf : Tr → Prop
  | .nil => True
  | .node _ c l _ _ r => (c = true → l.red = false ∨ r.red = false) ∧ l.rr ∧ r.rr

def Sorted (l : List Ky) : Prop := l.Pairwise lt

theorem keys_ink (T : Tr) (c : Bool) : (T.ink c).keys = T.keys := by cases T <;> rfl
theorem bl_ink (T : Tr) (c : Bool) : (T.ink c).bl = T.bl := by cases T <;> rfl
theorem at_ink (T : Tr) (c : Bool) : (T.ink c).at = T.at := by cases T <;> rfl
theorem keys_turn (s : Bool) (T : Tr) : (turn s T).keys = T.keys := by
  cases T with
  | nil => rfl
  | node b c l v i r => cases s <;> cases l <;> cases r <;> simp [turn, Tr.keys]
theorem bl_turn (s : Bool) (T : Tr) : (turn s T).bl.Perm T.bl := by
  cases T with
  | nil => exact .rfl
  | node b c l v i r =>
    cases s <;> cases l <;> cases r <;> simp only [turn, Tr.bl, List.Perm.refl, List.nil_append, List.append_nil]
    all_goals (rw [List.perm_iff_count]; intro x; simp [List.count_cons, List.count_append]; try omega)
theorem keys_hang (s : Bool) (T X : Tr) (h : X.keys = (T.kid s).keys) : (T.hang s X).keys = T.keys := by
  cases T with
  | nil => rfl
  | node b c l v i r => cases s <;> simp [Tr.hang, Tr.keys, Tr.kid] at * <;> simp [h]
theorem bl_hang (s : Bool) (T X : Tr) (h : X.bl.Perm (T.kid s).bl) : (T.hang s X).bl.Perm T.bl := by
  cases T with
  | nil => exact .rfl
  | node b c l v i r =>
    cases s <;> simp only [Tr.hang, Tr.bl, Tr.kid, if_true, if_false, Bool.false_eq_true] at *
    · exact (h.append_right _).cons _
    · exact (h.append_left _).cons _
theorem kid_hang_same (s : Bool) (T X : Tr) (h : T ≠ .nil) : (T.hang s X).kid s = X := by
  cases T with
  | nil => exact absurd rfl h
  | node b c l v i r => cases s <;> simp [Tr.hang, Tr.kid]
theorem kid_hang_other (s : Bool) (T X : Tr) : (T.hang s X).kid (!s) = T.kid (!s) := by
  cases T with
  | nil => rfl
  | node b c l v i r => cases s <;> simp [Tr.hang, Tr.kid]
theorem keys_part (s : Bool) (T : Tr) : (part s T).keys = T.keys := by
  unfold part
  split
  · rfl
  · split
    · rw [keys_ink, keys_hang, keys_hang]
      · rw [keys_ink]
      · rw [keys_ink, kid_hang_other]
    · rw [keys_turn]
      split
      · rw [keys_hang]; rw [keys_turn]
      · rfl
theorem bl_part (s : Bool) (T : Tr) : (part s T).bl.Perm T.bl := by
  unfold part
  split
  · exact .rfl
  · split
    · rw [bl_ink]
      refine (bl_hang _ _ _ ?_).trans (bl_hang _ _ _ ?_)
      · rw [bl_ink, kid_hang_other]
      · rw [bl_ink]
    · refine (bl_turn _ _).trans ?_
      split
      · exact bl_hang _ _ _ (bl_turn _ _)
      · exact .rfl

/-- A key put into a row of keys. -/
def ins (k : Ky) : List Ky → List Ky
  | [] => [k]
  | x :: l => if lt k x then k :: x :: l else x :: ins k l
theorem mem_ins {k x : Ky} {l : List Ky} : x ∈ ins k l ↔ x = k ∨ x ∈ l := by
  induction l with
  | nil => simp [ins]
  | cons y l ih =>
    unfold ins
    split
    · simp
    · simp [ih]; constructor <;> rintro (h | h | h) <;> simp [h]
theorem ins_left {k x : Ky} {l r : List Ky} (h : lt k x) : ins k (l ++ x :: r) = ins k l ++ x :: r := by
  induction l with
  | nil => simp [ins, h]
  | cons y l ih =>
    simp only [List.cons_append, ins]
    split
    · rfl
    · rw [ih]; rfl
theorem ins_right {k x : Ky} {l r : List Ky} (h : ¬ lt k x) (hl : ∀ y ∈ l, lt y x) : ins k (l ++ x :: r) = l ++ x :: ins k r := by
  induction l with
  | nil => simp [ins, h]
  | cons y l ih =>
    simp only [List.cons_append, ins]
    have h1 : ¬ lt k y := fun h2 => h (lt_trans h2 (hl y (by simp)))
    rw [if_neg h1, ih (fun z hz => hl z (by simp [hz]))]
theorem sorted_ins {k : Ky} {l : List Ky} (h : Sorted l) (hk : k ∉ l) : Sorted (ins k l) := by
  induction l with
  | nil => simp [ins, Sorted]
  | cons y l ih =>
    unfold Sorted at *
    rw [List.pairwise_cons] at h
    unfold ins
    split
    · rename_i h1
      rw [List.pairwise_cons]
      refine ⟨fun z hz => ?_, List.pairwise_cons.2 h⟩
      rcases List.mem_cons.1 hz with rfl | hz
      · exact h1
      · exact lt_trans h1 (h.1 z hz)
    · rename_i h1
      rw [List.pairwise_cons]
      refine ⟨fun z hz => ?_, ih h.2 (fun h2 => hk (by simp [h2]))⟩
      rcases mem_ins.1 hz with rfl | hz
      · rcases lt_tri z y with h2 | h2 | h2
        · exact absurd h2 h1
        · exact absurd (by simp [h2]) hk
        · exact h2
      · exact h.1 z hz

theorem sorted_node {l r : List Ky} {x : Ky} (h : Sorted (l ++ x :: r)) : Sorted l ∧ Sorted r ∧ (∀ y ∈ l, lt y x) ∧ (∀ y ∈ r, lt x y) := by
  unfold Sorted at *
  rw [List.pairwise_append, List.pairwise_cons] at h
  exact ⟨h.1, h.2.1.2, fun y hy => h.2.2 y hy x (by simp), h.2.1.1⟩

theorem keys_put (k : Ky) (nb : Nat) (T : Tr) (hs : Sorted T.keys) (hk : k ∉ T.keys) : (put k nb T).keys = ins k T.keys := by
  induction T with
  | nil => simp [put, Tr.keys, ins]
  | node b c l v i r ihl ihr =>
    obtain ⟨s1, s2, s3, s4⟩ := sorted_node hs
    simp only [Tr.keys, List.mem_append, List.mem_cons, not_or] at hk
    unfold put
    by_cases h : lt (v, i) k
    · rw [if_pos (by simp [side, h]), keys_part]
      simp only [Tr.keys]
      rw [ihr s2 hk.2.2, ins_right (lt_asymm h) s3]
    · rw [if_neg (by simp [side, h]), keys_part]
      simp only [Tr.keys]
      rw [ihl s1 hk.1]
      rcases lt_tri k (v, i) with h1 | h1 | h1
      · rw [ins_left h1]
      · exact absurd h1 hk.2.1
      · exact absurd h1 h
theorem bl_put (k : Ky) (nb : Nat) (T : Tr) : (put k nb T).bl.Perm (nb :: T.bl) := by
  induction T with
  | nil => exact .rfl
  | node b c l v i r ihl ihr =>
    unfold put
    split
    · refine (bl_part _ _).trans ?_
      simp only [Tr.bl]
      refine ((ihr.append_left _).cons _).trans ?_
      rw [List.perm_iff_count]; intro x; simp [List.count_cons, List.count_append]; omega
    · refine (bl_part _ _).trans ?_
      simp only [Tr.bl]
      refine ((ihl.append_right _).cons _).trans ?_
      rw [List.perm_iff_count]; intro x; simp [List.count_cons, List.count_append]; omega
end Go.Proofs.YtnnjbonejbmgdaaGreat.Tree

/- A tree of red and black keys as plain data: a key that comes or goes leaves it as low as it may be. Conditions: none. -/
namespace Go.Proofs.YtnnjbonejbmgdaaGreat.Tree
set_option linter.unusedVariables false
set_option linter.unusedSimpArgs false

theorem rr_inf {T : Tr} (h : T.rr) : T.inf := by
  cases T with
  | nil => trivial
  | node b c l v i r => exact ⟨fun e => .inl (h.1 e).1, h.2⟩
theorem part_same {s : Bool} {T : Tr} (h1 : inner s T = false) (h2 : outer s T = false) : part s T = T := by simp [part, h1, h2]

set_option maxHeartbeats 4000000 in
theorem part_bal (s : Bool) (b : Nat) (c : Bool) (x : Tr) (v i : Int) (y : Tr) (hx : x.ok) (hy : y.ok) (hb : x.bh = y.bh) (rx : x.inf) (ry : y.rr) (hc : c = true → x.rr ∧ y.red = false) :
    (part s (mk s b c x v i y)).ok ∧ (part s (mk s b c x v i y)).bh = x.bh + (if c then 0 else 1) ∧ (part s (mk s b c x v i y)).inf ∧ (c = false → (part s (mk s b c x v i y)).rr) := by
  cases x with
  | nil =>
    have e : part s (mk s b c .nil v i y) = mk s b c .nil v i y := by cases s <;> simp [part, inner, outer, mk, Tr.kid, Tr.red]
    rw [e]
    cases s <;> cases c <;> simp_all [mk, Tr.ok, Tr.bh, Tr.inf, Tr.rr, Tr.red]
  | node b1 c1 l1 v1 i1 r1 =>
    cases c1 with
    | false =>
      have e : part s (mk s b c (.node b1 false l1 v1 i1 r1) v i y) = mk s b c (.node b1 false l1 v1 i1 r1) v i y := by cases s <;> simp [part, inner, outer, mk, Tr.kid, Tr.red]
      rw [e]
      cases s <;> cases c <;> simp_all [mk, Tr.ok, Tr.bh, Tr.inf, Tr.rr, Tr.red]
    | true =>
      cases l1 with
      | nil =>
        cases r1 with
        | nil => cases s <;> cases c <;> simp_all [part, inner, outer, mk, Tr.ok, Tr.bh, Tr.inf, Tr.rr, Tr.red, Tr.kid]
        | node b3 c3 l3 v3 i3 r3 =>
          cases y with
          | nil => cases s <;> cases c <;> cases c3 <;> simp_all [part, turn, inner, outer, mk, Tr.ok, Tr.bh, Tr.inf, Tr.rr, Tr.red, Tr.kid, Tr.hang, Tr.ink] <;> (try omega)
          | node b4 c4 l4 v4 i4 r4 => cases s <;> cases c <;> cases c3 <;> cases c4 <;> simp_all [part, turn, inner, outer, mk, Tr.ok, Tr.bh, Tr.inf, Tr.rr, Tr.red, Tr.kid, Tr.hang, Tr.ink] <;> (try omega)
      | node b2 c2 l2 v2 i2 r2 =>
        cases r1 with
        | nil =>
          cases y with
          | nil => cases s <;> cases c <;> cases c2 <;> simp_all [part, turn, inner, outer, mk, Tr.ok, Tr.bh, Tr.inf, Tr.rr, Tr.red, Tr.kid, Tr.hang, Tr.ink] <;> (try omega)
          | node b4 c4 l4 v4 i4 r4 => cases s <;> cases c <;> cases c2 <;> cases c4 <;> simp_all [part, turn, inner, outer, mk, Tr.ok, Tr.bh, Tr.inf, Tr.rr, Tr.red, Tr.kid, Tr.hang, Tr.ink] <;> (try omega)
        | node b3 c3 l3 v3 i3 r3 =>
          cases y with
          | nil => cases s <;> cases c <;> cases c2 <;> cases c3 <;> simp_all [part, turn, inner, outer, mk, Tr.ok, Tr.bh, Tr.inf, Tr.rr, Tr.red, Tr.kid, Tr.hang, Tr.ink] <;> (try omega)
          | node b4 c4 l4 v4 i4 r4 => cases s <;> cases c <;> cases c2 <;> cases c3 <;> cases c4 <;> simp_all [part, turn, inner, outer, mk, Tr.ok, Tr.bh, Tr.inf, Tr.rr, Tr.red, Tr.kid, Tr.hang, Tr.ink] <;> (try omega)

theorem put_bal (k : Ky) (nb : Nat) (T : Tr) (h : T.ok) (hr : T.rr) : (put k nb T).ok ∧ (put k nb T).bh = T.bh ∧ (put k nb T).inf ∧ (T.red = false → (put k nb T).rr) := by
  induction T with
  | nil => simp [put, Tr.ok, Tr.bh, Tr.inf, Tr.rr, Tr.red]
  | node b c l v i r ihl ihr =>
    obtain ⟨h1, h2, h3⟩ := h
    obtain ⟨r1, r2, r3⟩ := hr
    obtain ⟨a1, a2, a3, a4⟩ := ihl h1 r2
    obtain ⟨b1, b2, b3, b4⟩ := ihr h2 r3
    unfold put
    split
    · have := part_bal true b c (put k nb r) v i l b1 h1 (by omega) b3 r2 (fun e => ⟨b4 (r1 e).2, (r1 e).1⟩)
      simp only [mk, if_true] at this
      refine ⟨this.1, ?_, this.2.2.1, fun e => this.2.2.2 e⟩
      rw [this.2.1, b2, ← h3]; rfl
    · have := part_bal false b c (put k nb l) v i r a1 h2 (by omega) a3 r3 (fun e => ⟨a4 (r1 e).1, (r1 e).2⟩)
      simp only [mk, Bool.false_eq_true, if_false] at this
      refine ⟨this.1, ?_, this.2.2.1, fun e => this.2.2.2 e⟩
      rw [this.2.1, a2]; rfl

theorem bh_ink_false {T : Tr} : (T.ink false).red = false := by cases T <;> rfl
/-- The top is made black. -/
theorem top_bal {T : Tr} (h : T.ok) (hr : T.inf) : (T.ink false).ok ∧ (T.ink false).rr ∧ (T.ink false).red = false := by
  cases T with
  | nil => simp [Tr.ink, Tr.ok, Tr.rr, Tr.red]
  | node b c l v i r => simp_all [Tr.ink, Tr.ok, Tr.rr, Tr.red, Tr.inf]

set_option maxHeartbeats 4000000 in
theorem fillB_bal (s : Bool) (b : Nat) (c : Bool) (x : Tr) (v i : Int) (y : Tr) (hx : x.ok) (hy : y.ok) (hb : x.bh + 1 = y.bh) (rx : x.rr) (ry : y.rr) (hr : y.red = false) :
    (fillB s (mk s b c x v i y)).1.ok ∧ (fillB s (mk s b c x v i y)).1.rr ∧ (fillB s (mk s b c x v i y)).1.bh + (if (fillB s (mk s b c x v i y)).2 then 1 else 0) = y.bh + (if c then 0 else 1) ∧
    (c = false → (fillB s (mk s b c x v i y)).1.red = false) ∧ ((fillB s (mk s b c x v i y)).2 = true → c = false) := by
  cases y with
  | nil => simp [Tr.bh] at hb
  | node b1 c1 l1 v1 i1 r1 =>
    simp only [Tr.red] at hr
    subst hr
    cases l1 with
    | nil =>
      cases r1 with
      | nil => cases s <;> cases c <;> simp_all [fillB, turn, mk, Tr.ok, Tr.bh, Tr.rr, Tr.red, Tr.kid, Tr.hang, Tr.ink] <;> (try omega)
      | node b3 c3 l3 v3 i3 r3 => cases s <;> cases c <;> cases c3 <;> simp_all [fillB, turn, mk, Tr.ok, Tr.bh, Tr.rr, Tr.red, Tr.kid, Tr.hang, Tr.ink] <;> (try omega)
    | node b2 c2 l2 v2 i2 r2 =>
      cases r1 with
      | nil => cases s <;> cases c <;> cases c2 <;> simp_all [fillB, turn, mk, Tr.ok, Tr.bh, Tr.rr, Tr.red, Tr.kid, Tr.hang, Tr.ink] <;> (try omega)
      | node b3 c3 l3 v3 i3 r3 => cases s <;> cases c <;> cases c2 <;> cases c3 <;> simp_all [fillB, turn, mk, Tr.ok, Tr.bh, Tr.rr, Tr.red, Tr.kid, Tr.hang, Tr.ink] <;> (try omega)

theorem kid_mk (s : Bool) (b : Nat) (c : Bool) (x : Tr) (v i : Int) (y : Tr) : (mk s b c x v i y).kid s = x := by cases s <;> simp [mk, Tr.kid]
theorem kid_mk' (s : Bool) (b : Nat) (c : Bool) (x : Tr) (v i : Int) (y : Tr) : (mk s b c x v i y).kid (!s) = y := by cases s <;> simp [mk, Tr.kid]
theorem turn_mk (s : Bool) (b : Nat) (c : Bool) (x : Tr) (v i : Int) (u : Nat) (d : Bool) (B : Tr) (v' i' : Int) (C : Tr) :
    turn s (mk s b c x v i (mk s u d B v' i' C)) = mk s u c (mk s b true x v i B) v' i' C := by cases s <;> simp [mk, turn]
theorem hang_mk (s : Bool) (b : Nat) (c : Bool) (x : Tr) (v i : Int) (y z : Tr) : (mk s b c x v i y).hang s z = mk s b c z v i y := by cases s <;> simp [mk, Tr.hang]
theorem hang_mk' (s : Bool) (b : Nat) (c : Bool) (x : Tr) (v i : Int) (y z : Tr) : (mk s b c x v i y).hang (!s) z = mk s b c x v i z := by cases s <;> simp [mk, Tr.hang]
theorem node_mk (s : Bool) (b : Nat) (c : Bool) (l : Tr) (v i : Int) (r : Tr) : Tr.node b c l v i r = mk s b c ((Tr.node b c l v i r).kid s) v i ((Tr.node b c l v i r).kid (!s)) := by cases s <;> simp [mk, Tr.kid]
theorem ok_mk (s : Bool) (b : Nat) (c : Bool) (x : Tr) (v i : Int) (y : Tr) : (mk s b c x v i y).ok ↔ x.ok ∧ y.ok ∧ x.bh = y.bh := by cases s <;> simp [mk, Tr.ok] ; constructor <;> rintro ⟨a, b, c⟩ <;> simp_all
theorem rr_mk (s : Bool) (b : Nat) (c : Bool) (x : Tr) (v i : Int) (y : Tr) : (mk s b c x v i y).rr ↔ (c = true → x.red = false ∧ y.red = false) ∧ x.rr ∧ y.rr := by
  cases s <;> simp [mk, Tr.rr]; constructor <;> rintro ⟨a, b, c⟩ <;> simp_all
theorem bh_mk {s : Bool} {b : Nat} {c : Bool} {x : Tr} {v i : Int} {y : Tr} (h : x.bh = y.bh) : (mk s b c x v i y).bh = x.bh + (if c then 0 else 1) := by cases s <;> simp [mk, Tr.bh, h]
theorem red_mk (s : Bool) (b : Nat) (c : Bool) (x : Tr) (v i : Int) (y : Tr) : (mk s b c x v i y).red = c := by cases s <;> simp [mk, Tr.red]

theorem fill_bal (s : Bool) (b : Nat) (c : Bool) (x : Tr) (v i : Int) (y : Tr) (hx : x.ok) (hy : y.ok) (hb : x.bh + 1 = y.bh) (rx : x.rr) (ry : y.rr) (hr : c = true → y.red = false) :
    (fill s (mk s b c x v i y)).1.ok ∧ (fill s (mk s b c x v i y)).1.rr ∧ (fill s (mk s b c x v i y)).1.bh + (if (fill s (mk s b c x v i y)).2 then 1 else 0) = y.bh + (if c then 0 else 1) ∧
    (c = false → (fill s (mk s b c x v i y)).1.red = false) ∧ ((fill s (mk s b c x v i y)).2 = true → c = false) := by
  unfold fill
  rw [kid_mk']
  cases hyr : y.red
  · simp only [Bool.false_eq_true, if_false]
    exact fillB_bal s b c x v i y hx hy hb rx ry hyr
  · have hc : c = false := by cases c <;> simp_all
    subst hc
    cases y with
    | nil => simp [Tr.red] at hyr
    | node u d l v' i' r =>
      simp only [Tr.red] at hyr
      subst hyr
      rw [node_mk s u] at hy ry hb ⊢
      generalize (Tr.node u true l v' i' r).kid s = B at *
      generalize (Tr.node u true l v' i' r).kid (!s) = C at *
      rw [ok_mk] at hy
      rw [rr_mk] at ry
      rw [bh_mk hy.2.2] at hb
      simp only [if_true, Nat.add_zero, forall_const] at hb ry
      obtain ⟨k1, k2, k3, k4, k5⟩ := fillB_bal s b true x v i B hx hy.1 hb rx ry.2.1 ry.1.1
      simp only [if_true]
      rw [turn_mk, kid_mk, hang_mk]
      generalize fillB s (mk s b true x v i B) = R at *
      have e2 : R.2 = false := by cases h : R.2 <;> simp_all
      rw [e2] at k3
      simp only [Bool.false_eq_true, if_false, if_true, Nat.add_zero] at k3 ⊢
      refine ⟨?_, ?_, ?_, ?_, by simp⟩
      · rw [ok_mk]; exact ⟨k1, hy.2.1, by omega⟩
      · rw [rr_mk]; exact ⟨by simp, k2, ry.2.2⟩
      · rw [bh_mk (by omega), bh_mk hy.2.2]; simp; omega
      · rw [red_mk]; simp

theorem keys_fillB (s : Bool) (T : Tr) : (fillB s T).1.keys = T.keys := by
  unfold fillB
  simp only
  split
  · rw [keys_ink, keys_hang]; rw [keys_ink]
  · simp only
    have e : ∀ U : Tr, ((U.hang false ((U.kid false).ink false)).hang true ((U.kid true).ink false)).keys = U.keys := by
      intro U
      rw [keys_hang true, keys_hang false]
      · rw [keys_ink]
      · rw [keys_ink]; exact congrArg Tr.keys (kid_hang_other false U _).symm
    rw [e, keys_turn]
    split
    · rfl
    · rw [keys_hang]; rw [keys_turn]
theorem bl_fillB (s : Bool) (T : Tr) : (fillB s T).1.bl.Perm T.bl := by
  unfold fillB
  simp only
  split
  · rw [bl_ink]; refine bl_hang _ _ _ ?_; rw [bl_ink]
  · simp only
    have e : ∀ U : Tr, ((U.hang false ((U.kid false).ink false)).hang true ((U.kid true).ink false)).bl.Perm U.bl := by
      intro U
      refine (bl_hang true _ _ ?_).trans (bl_hang false _ _ ?_)
      · rw [bl_ink]; rw [show (U.hang false ((U.kid false).ink false)).kid true = U.kid true from kid_hang_other false U _]
      · rw [bl_ink]
    refine (e _).trans ((bl_turn _ _).trans ?_)
    split
    · exact .rfl
    · exact bl_hang _ _ _ (bl_turn _ _)
theorem keys_fill (s : Bool) (T : Tr) : (fill s T).1.keys = T.keys := by
  unfold fill
  split
  · simp only
    rw [keys_hang _ _ _ (keys_fillB _ _), keys_turn]
  · exact keys_fillB _ _
theorem bl_fill (s : Bool) (T : Tr) : (fill s T).1.bl.Perm T.bl := by
  unfold fill
  split
  · simp only
    exact (bl_hang _ _ _ (bl_fillB _ _)).trans (bl_turn _ _)
  · exact bl_fillB _ _

/-- The last key is the last one. -/
theorem end_last : ∀ {T : Tr}, T ≠ .nil → ∃ l, T.keys = l ++ [T.end]
  | .nil, h => absurd rfl h
  | .node b c l v i .nil, _ => ⟨l.keys, by simp [Tr.keys, Tr.end]⟩
  | .node b c l v i (.node b' c' l' v' i' r'), _ => by
    obtain ⟨m, hm⟩ := end_last (T := .node b' c' l' v' i' r') (by simp)
    refine ⟨l.keys ++ (v, i) :: m, ?_⟩
    rw [show (Tr.node b c l v i (.node b' c' l' v' i' r')).keys = l.keys ++ (v, i) :: (Tr.node b' c' l' v' i' r').keys from rfl, hm]
    simp [Tr.end]
theorem head_first : ∀ {T : Tr}, T ≠ .nil → ∃ l, T.keys = T.head :: l
  | .nil, h => absurd rfl h
  | .node b c .nil v i r, _ => ⟨r.keys, by simp [Tr.keys, Tr.head]⟩
  | .node b c (.node b' c' l' v' i' r') v i r, _ => by
    obtain ⟨m, hm⟩ := head_first (T := .node b' c' l' v' i' r') (by simp)
    refine ⟨m ++ (v, i) :: r.keys, ?_⟩
    rw [show (Tr.node b c (.node b' c' l' v' i' r') v i r).keys = (Tr.node b' c' l' v' i' r').keys ++ (v, i) :: r.keys from rfl, hm]
    simp [Tr.head]
theorem end_mem {T : Tr} (h : T ≠ .nil) : T.end ∈ T.keys := by
  obtain ⟨l, e⟩ := end_last h
  rw [e]; simp

/-- All but one key. -/
def but (k : Ky) (l : List Ky) : List Ky := l.filter fun x => decide (x ≠ k)
theorem but_none {k : Ky} {l : List Ky} (h : k ∉ l) : but k l = l := by
  unfold but
  rw [List.filter_eq_self]
  intro x hx
  simp
  rintro rfl
  exact h hx
theorem but_append (k : Ky) (l r : List Ky) : but k (l ++ r) = but k l ++ but k r := by simp [but]
theorem but_cons (k x : Ky) (r : List Ky) : but k (x :: r) = if x = k then but k r else x :: but k r := by
  unfold but
  rw [List.filter_cons]
  by_cases h : x = k <;> simp [h]
theorem not_mem_of_lt {k : Ky} {l : List Ky} (h : ∀ y ∈ l, lt k y) : k ∉ l := fun hk => lt_irrefl k (h k hk)
theorem not_mem_of_gt {k : Ky} {l : List Ky} (h : ∀ y ∈ l, lt y k) : k ∉ l := fun hk => lt_irrefl k (h k hk)

theorem keys_take (T : Tr) : ∀ k, Sorted T.keys → k ∈ T.keys → (take T k).1.keys = but k T.keys := by
  induction T with
  | nil => intro k _ hk; simp [Tr.keys] at hk
  | node b c l v i r ihl ihr =>
    intro k hs hk
    obtain ⟨s1, s2, s3, s4⟩ := sorted_node hs
    simp only [Tr.keys]
    rw [but_append, but_cons]
    unfold take
    by_cases e : (v, i) = k
    · subst e
      rw [if_pos rfl, if_pos rfl, but_none (not_mem_of_gt s3), but_none (not_mem_of_lt s4)]
      cases l with
      | nil =>
        simp only [without, Tr.keys, List.nil_append]
        split
        · simp only [keys_ink]
        · rfl
      | node b' c' l' v' i' r' =>
        obtain ⟨m, hm⟩ := end_last (T := .node b' c' l' v' i' r') (by simp)
        have k1 := ihl (Tr.node b' c' l' v' i' r').end s1 (end_mem (by simp))
        simp only
        generalize Tr.node b' c' l' v' i' r' = L at *
        have k2 : but L.end L.keys = m := by
          rw [hm, but_append, but_cons, if_pos rfl]
          have : L.end ∉ m := by
            intro h
            rw [hm] at s1
            unfold Sorted at s1
            rw [List.pairwise_append] at s1
            exact lt_irrefl _ (s1.2.2 _ h _ (by simp))
          rw [but_none this]; simp [but]
        split
        · rw [keys_fill]
          simp only [Tr.keys, k1, k2]
          rw [hm]; simp
        · simp only [Tr.keys, k1, k2]
          rw [hm]; simp
    · rw [if_neg e, if_neg e]
      by_cases h : lt (v, i) k
      · rw [if_pos (by simp [side, h])]
        have hl : k ∉ l.keys := fun h2 => lt_asymm h (s3 k h2)
        have hr : k ∈ r.keys := by
          simp only [Tr.keys, List.mem_append, List.mem_cons] at hk
          rcases hk with hk | hk | hk
          · exact absurd hk hl
          · exact absurd hk.symm e
          · exact hk
        rw [but_none hl]
        simp only
        split
        · rw [keys_fill]; simp only [Tr.keys, ihr k s2 hr]
        · simp only [Tr.keys, ihr k s2 hr]
      · rw [if_neg (by simp [side, h])]
        have hr : k ∉ r.keys := fun h2 => h (s4 k h2)
        have hl : k ∈ l.keys := by
          simp only [Tr.keys, List.mem_append, List.mem_cons] at hk
          rcases hk with hk | hk | hk
          · exact hk
          · exact absurd hk.symm e
          · exact absurd hk hr
        rw [but_none hr]
        simp only
        split
        · rw [keys_fill]; simp only [Tr.keys, ihl k s1 hl]
        · simp only [Tr.keys, ihl k s1 hl]

theorem bl_take (T : Tr) : ∀ k, Sorted T.keys → k ∈ T.keys → ∃ d, (d :: (take T k).1.bl).Perm T.bl := by
  induction T with
  | nil => intro k _ hk; simp [Tr.keys] at hk
  | node b c l v i r ihl ihr =>
    intro k hs hk
    obtain ⟨s1, s2, s3, s4⟩ := sorted_node hs
    unfold take
    have kl : ∀ d (X : Tr) (v' i' : Int), (d :: X.bl).Perm l.bl → (d :: (Tr.node b c X v' i' r).bl).Perm (Tr.node b c l v i r).bl := by
      intro d X v' i' h
      simp only [Tr.bl]
      rw [List.perm_iff_count] at h ⊢
      intro x
      have := h x
      simp [List.count_cons, List.count_append] at this ⊢
      omega
    have kr : ∀ d (X : Tr), (d :: X.bl).Perm r.bl → (d :: (Tr.node b c l v i X).bl).Perm (Tr.node b c l v i r).bl := by
      intro d X h
      simp only [Tr.bl]
      rw [List.perm_iff_count] at h ⊢
      intro x
      have := h x
      simp [List.count_cons, List.count_append] at this ⊢
      omega
    by_cases e : (v, i) = k
    · subst e
      rw [if_pos rfl]
      cases l with
      | nil =>
        refine ⟨b, ?_⟩
        simp only [without, Tr.bl, List.nil_append]
        split
        · simp only [bl_ink]; exact .rfl
        · exact .rfl
      | node b' c' l' v' i' r' =>
        obtain ⟨d, hd⟩ := ihl (Tr.node b' c' l' v' i' r').end s1 (end_mem (by simp))
        refine ⟨d, ?_⟩
        simp only
        split
        · exact ((bl_fill _ _).cons _).trans (kl d _ _ _ hd)
        · exact kl d _ _ _ hd
    · rw [if_neg e]
      by_cases h : lt (v, i) k
      · rw [if_pos (by simp [side, h])]
        have hr : k ∈ r.keys := by
          simp only [Tr.keys, List.mem_append, List.mem_cons] at hk
          rcases hk with hk | hk | hk
          · exact absurd (s3 k hk) (lt_asymm h)
          · exact absurd hk.symm e
          · exact hk
        obtain ⟨d, hd⟩ := ihr k s2 hr
        refine ⟨d, ?_⟩
        simp only
        split
        · exact ((bl_fill _ _).cons _).trans (kr d _ hd)
        · exact kr d _ hd
      · rw [if_neg (by simp [side, h])]
        have hl : k ∈ l.keys := by
          simp only [Tr.keys, List.mem_append, List.mem_cons] at hk
          rcases hk with hk | hk | hk
          · exact hk
          · exact absurd hk.symm e
          · exact absurd (s4 k hk) h
        obtain ⟨d, hd⟩ := ihl k s1 hl
        refine ⟨d, ?_⟩
        simp only
        split
        · exact ((bl_fill _ _).cons _).trans (kl d _ _ _ hd)
        · exact kl d _ _ _ hd

theorem take_bal (T : Tr) : ∀ k, T.ok → T.rr → k ∈ T.keys → Sorted T.keys →
    (take T k).1.ok ∧ (take T k).1.rr ∧ (take T k).1.bh + (if (take T k).2 then 1 else 0) = T.bh ∧ (T.red = false → (take T k).1.red = false) ∧ ((take T k).2 = true → T.red = false) := by
  induction T with
  | nil => intro k _ _ hk; simp [Tr.keys] at hk
  | node b c l v i r ihl ihr =>
    intro k ho hr hk hs
    obtain ⟨s1, s2, s3, s4⟩ := sorted_node hs
    obtain ⟨o1, o2, o3⟩ := ho
    obtain ⟨r1, r2, r3⟩ := hr
    have L : ∀ (X : Tr) (less : Bool) (v' i' : Int), X.ok → X.rr → X.bh + (if less then 1 else 0) = l.bh → (l.red = false → X.red = false) →
        (if less then fill false (.node b c X v' i' r) else (.node b c X v' i' r, false)).1.ok ∧ (if less then fill false (.node b c X v' i' r) else (.node b c X v' i' r, false)).1.rr ∧
        (if less then fill false (.node b c X v' i' r) else (.node b c X v' i' r, false)).1.bh + (if (if less then fill false (.node b c X v' i' r) else (.node b c X v' i' r, false)).2 then 1 else 0) = (Tr.node b c l v i r).bh ∧
        ((Tr.node b c l v i r).red = false → (if less then fill false (.node b c X v' i' r) else (.node b c X v' i' r, false)).1.red = false) ∧
        ((if less then fill false (.node b c X v' i' r) else (.node b c X v' i' r, false)).2 = true → (Tr.node b c l v i r).red = false) := by
      intro X less v' i' x1 x2 x3 x4
      cases less
      · simp only [Bool.false_eq_true, if_false, Nat.add_zero] at x3 ⊢
        refine ⟨⟨x1, o2, by omega⟩, ⟨fun e => ⟨x4 (r1 e).1, (r1 e).2⟩, x2, r3⟩, by simp [Tr.bh, x3], fun e => e, by simp⟩
      · simp only [if_true] at x3 ⊢
        have := fill_bal false b c X v' i' r x1 o2 (by omega) x2 r3 (fun e => (r1 e).2)
        simp only [mk, Bool.false_eq_true, if_false] at this
        obtain ⟨f1, f2, f3, f4, f5⟩ := this
        exact ⟨f1, f2, by rw [f3, ← o3]; rfl, f4, f5⟩
    have R : ∀ (X : Tr) (less : Bool), X.ok → X.rr → X.bh + (if less then 1 else 0) = r.bh → (r.red = false → X.red = false) →
        (if less then fill true (.node b c l v i X) else (.node b c l v i X, false)).1.ok ∧ (if less then fill true (.node b c l v i X) else (.node b c l v i X, false)).1.rr ∧
        (if less then fill true (.node b c l v i X) else (.node b c l v i X, false)).1.bh + (if (if less then fill true (.node b c l v i X) else (.node b c l v i X, false)).2 then 1 else 0) = (Tr.node b c l v i r).bh ∧
        ((Tr.node b c l v i r).red = false → (if less then fill true (.node b c l v i X) else (.node b c l v i X, false)).1.red = false) ∧
        ((if less then fill true (.node b c l v i X) else (.node b c l v i X, false)).2 = true → (Tr.node b c l v i r).red = false) := by
      intro X less x1 x2 x3 x4
      cases less
      · simp only [Bool.false_eq_true, if_false, Nat.add_zero] at x3 ⊢
        refine ⟨⟨o1, x1, by omega⟩, ⟨fun e => ⟨(r1 e).1, x4 (r1 e).2⟩, r2, x2⟩, by simp [Tr.bh], fun e => e, by simp⟩
      · simp only [if_true] at x3 ⊢
        have := fill_bal true b c X v i l x1 o1 (by omega) x2 r2 (fun e => (r1 e).1)
        simp only [mk, if_true] at this
        obtain ⟨f1, f2, f3, f4, f5⟩ := this
        exact ⟨f1, f2, by rw [f3]; rfl, f4, f5⟩
    unfold take
    by_cases e : (v, i) = k
    · subst e
      rw [if_pos rfl]
      cases l with
      | nil =>
        simp only [without]
        cases r with
        | nil => cases c <;> simp_all [Tr.red, Tr.ok, Tr.rr, Tr.bh]
        | node b' c' l' v' i' r' => cases c <;> cases c' <;> simp_all [Tr.red, Tr.ok, Tr.rr, Tr.bh, Tr.ink]
      | node b' c' l' v' i' r' =>
        obtain ⟨k1, k2, k3, k4, k5⟩ := ihl (Tr.node b' c' l' v' i' r').end o1 r2 (end_mem (by simp)) s1
        exact L _ _ _ _ k1 k2 k3 k4
    · rw [if_neg e]
      by_cases h : lt (v, i) k
      · rw [if_pos (by simp [side, h])]
        have hr : k ∈ r.keys := by
          simp only [Tr.keys, List.mem_append, List.mem_cons] at hk
          rcases hk with hk | hk | hk
          · exact absurd (s3 k hk) (lt_asymm h)
          · exact absurd hk.symm e
          · exact hk
        obtain ⟨k1, k2, k3, k4, k5⟩ := ihr k o2 r3 hr s2
        exact R _ _ k1 k2 k3 k4
      · rw [if_neg (by simp [side, h])]
        have hl : k ∈ l.keys := by
          simp only [Tr.keys, List.mem_append, List.mem_cons] at hk
          rcases hk with hk | hk | hk
          · exact hk
          · exact absurd hk.symm e
          · exact absurd (s4 k hk) h
        obtain ⟨k1, k2, k3, k4, k5⟩ := ihl k o1 r2 hl s1
        exact L _ _ _ _ k1 k2 k3 k4
end Go.Proofs.YtnnjbonejbmgdaaGreat.Tree

/- How a tree of keys lies in memory, and what a change elsewhere leaves of it. Conditions: none. -/
namespace Go.Proofs.YtnnjbonejbmgdaaGreat.Tree
open Go.ChangeShapes Go.WideShapes Go.ChangeAt Go.RowKit
set_option linter.unusedVariables false
set_option linter.unusedSimpArgs false

/-- Nothing but what is in B has changed, of what was there. -/
structure Chg (B : Nat → Prop) (w w' : World) : Prop where
  os : w'.os = w.os
  tape : w'.tape = w.tape
  output : w'.output = w.output
  size : w.heap.size ≤ w'.heap.size
  block : ∀ k, k < w.heap.size → ¬ B k → w'.heap[k]? = w.heap[k]?

theorem Chg.refl (B : Nat → Prop) (w : World) : Chg B w w := ⟨rfl, rfl, rfl, Nat.le_refl _, fun _ _ _ => rfl⟩
theorem Chg.trans {B B' : Nat → Prop} {a b c : World} (h : Chg B a b) (k : Chg B' b c) (hb : ∀ i, i < a.heap.size → B' i → B i) : Chg B a c :=
  ⟨k.os.trans h.os, k.tape.trans h.tape, k.output.trans h.output, Nat.le_trans h.size k.size,
    fun i hi hn => (k.block i (Nat.lt_of_lt_of_le hi h.size) (fun h2 => hn (hb i hi h2))).trans (h.block i hi hn)⟩
theorem Chg.mono {B B' : Nat → Prop} {a b : World} (h : Chg B a b) (k : ∀ i, i < a.heap.size → B i → B' i) : Chg B' a b :=
  ⟨h.os, h.tape, h.output, h.size, fun i hi hn => h.block i hi (fun h2 => hn (k i hi h2))⟩
theorem Chg.of {B : Nat → Prop} {a b : World} (h : Below a.heap.size a b) : Chg B a b := ⟨h.os, h.tape, h.output, h.size, fun i hi _ => h.block i hi⟩
theorem Chg.below {B : Nat → Prop} {a b : World} {n : Nat} (h : Chg B a b) (hn : n ≤ a.heap.size) (hb : ∀ i, i < n → ¬ B i) : Below n a b :=
  ⟨h.os, h.tape, h.output, by have := h.size; omega, fun i hi => h.block i (Nat.lt_of_lt_of_le hi hn) (hb i hi)⟩
theorem Chg.then {B : Nat → Prop} {a b c : World} (h : Chg B a b) (k : Below b.heap.size b c) : Chg B a c := h.trans (B' := fun _ => False) (.of k) (fun _ _ h => h.elim)
theorem Chg.setCell {B : Nat → Prop} {a w : World} (h : Chg B a w) {p : Addr} (hp : p.block < a.heap.size → B p.block) (u : Value) : Chg B a (w.setCell p u) :=
  h.trans (B' := fun i => i = p.block) ⟨rfl, rfl, rfl, by simp [World.setCell], fun k _ hk => Below.heap_setCell _ _ _ _ hk⟩ (fun i hi e => by subst e; exact hp hi)
theorem Chg.drew {B : Nat → Prop} {a w : World} (h : Chg B a w) : Chg B a w.drew := ⟨h.os, h.tape, h.output, h.size, h.block⟩
theorem Chg.drewN {B : Nat → Prop} {a w : World} (h : Chg B a w) (n : Nat) : Chg B a (w.drewN n) := ⟨h.os, h.tape, h.output, h.size, h.block⟩
theorem Chg.alloc {B : Nat → Prop} {a w : World} (h : Chg B a w) (o : Obj) : Chg B a (w.alloc o) := h.then ((Below.refl _ w).alloc (Nat.le_refl _) o)
theorem Chg.cell {B : Nat → Prop} {a w : World} (h : Chg B a w) {p : Addr} (h1 : p.block < a.heap.size) (h2 : ¬ B p.block) : w.cell? p = a.cell? p := World.cell?_of_block (h.block _ h1 h2)

theorem fresh_trans {a b c : World} (h : Below a.heap.size a b) (k : Below b.heap.size b c) : Below a.heap.size a c := h.trans (k.mono h.size)
theorem drawn (w : World) (n : Nat) : Below w.heap.size w (w.drewN n) := ⟨rfl, rfl, rfl, Nat.le_refl _, fun _ _ => rfl⟩
theorem undrew {w w' : World} (h : Below w.drew.heap.size w.drew w') : Below w.heap.size w w' := ⟨h.os, h.tape, h.output, h.size, h.block⟩
theorem lt_of {w : World} {k : Nat} {o : Obj} (h : w.heap[k]? = some o) : k < w.heap.size := (Array.getElem?_eq_some_iff.1 h).1

theorem at_nil : Tr.nil.at = none := rfl
theorem at_node (b : Nat) (c : Bool) (l : Tr) (v i : Int) (r : Tr) : (Tr.node b c l v i r).at = some ⟨b, 0, none⟩ := rfl
/-- A node's block. -/
def Nd (w : World) (b : Nat) (c : Bool) (l : Option Addr) (v i : Int) (r : Option Addr) : Prop :=
  w.heap[b]? = some (.cells #[.int .i64 v, .int .i64 i, .bool c, .pointer l, .pointer r] 203 (0, 0))
def In (w : World) : Tr → Prop
  | .nil => True
  | .node b c l v i r => Nd w b c l.at v i r.at ∧ In w l ∧ In w r

theorem Nd.cells {w : World} {b : Nat} {c : Bool} {l r : Option Addr} {v i : Int} (h : Nd w b c l v i r) :
    w.cell? ⟨b, 0, none⟩ = some (.int .i64 v) ∧ w.cell? ⟨b, 1, none⟩ = some (.int .i64 i) ∧ w.cell? ⟨b, 2, none⟩ = some (.bool c) ∧ w.cell? ⟨b, 3, none⟩ = some (.pointer l) ∧ w.cell? ⟨b, 4, none⟩ = some (.pointer r) ∧
    (∀ j, w.frozen? ⟨b, j, none⟩ = false) := by
  unfold Nd at h
  refine ⟨?_, ?_, ?_, ?_, ?_, fun j => frozen_of_row w b j _ _ h⟩
  all_goals rw [cell_of_row w b _ _ _ _ h]; rfl
theorem Nd.lt {w : World} {b : Nat} {c : Bool} {l r : Option Addr} {v i : Int} (h : Nd w b c l v i r) : b < w.heap.size := lt_of h
theorem Nd.on {w w' : World} {b : Nat} {c : Bool} {l r : Option Addr} {v i : Int} (h : Nd w b c l v i r) (e : w'.heap[b]? = w.heap[b]?) : Nd w' b c l v i r := e.trans h
theorem Nd.other {w : World} {b : Nat} {c : Bool} {l r : Option Addr} {v i : Int} (h : Nd w b c l v i r) {p : Addr} (hp : b ≠ p.block) (u : Value) : Nd (w.setCell p u) b c l v i r := h.on (Below.heap_setCell _ _ _ _ hp)
theorem Nd.drew {w : World} {b : Nat} {c : Bool} {l r : Option Addr} {v i : Int} (h : Nd w b c l v i r) : Nd w.drew b c l v i r := h
theorem Nd.setV {w : World} {b : Nat} {c : Bool} {l r : Option Addr} {v i : Int} (h : Nd w b c l v i r) (u : Int) : Nd (w.setCell ⟨b, 0, none⟩ (.int .i64 u)) b c l u i r := by unfold Nd at *; rw [heap_setCell_same w b 0 _ _ _ h]; rfl
theorem Nd.setI {w : World} {b : Nat} {c : Bool} {l r : Option Addr} {v i : Int} (h : Nd w b c l v i r) (u : Int) : Nd (w.setCell ⟨b, 1, none⟩ (.int .i64 u)) b c l v u r := by unfold Nd at *; rw [heap_setCell_same w b 1 _ _ _ h]; rfl
theorem Nd.setC {w : World} {b : Nat} {c : Bool} {l r : Option Addr} {v i : Int} (h : Nd w b c l v i r) (u : Bool) : Nd (w.setCell ⟨b, 2, none⟩ (.bool u)) b u l v i r := by unfold Nd at *; rw [heap_setCell_same w b 2 _ _ _ h]; rfl
theorem Nd.setL {w : World} {b : Nat} {c : Bool} {l r : Option Addr} {v i : Int} (h : Nd w b c l v i r) (u : Option Addr) : Nd (w.setCell ⟨b, 3, none⟩ (.pointer u)) b c u v i r := by unfold Nd at *; rw [heap_setCell_same w b 3 _ _ _ h]; rfl
theorem Nd.setR {w : World} {b : Nat} {c : Bool} {l r : Option Addr} {v i : Int} (h : Nd w b c l v i r) (u : Option Addr) : Nd (w.setCell ⟨b, 4, none⟩ (.pointer u)) b c l v i u := by unfold Nd at *; rw [heap_setCell_same w b 4 _ _ _ h]; rfl

theorem In.lt {w : World} {T : Tr} (h : In w T) : ∀ b ∈ T.bl, b < w.heap.size := by
  induction T with
  | nil => simp [Tr.bl]
  | node b c l v i r ihl ihr =>
    intro k hk
    simp only [Tr.bl, List.mem_cons, List.mem_append] at hk
    rcases hk with rfl | hk | hk
    · exact h.1.lt
    · exact ihl h.2.1 k hk
    · exact ihr h.2.2 k hk
theorem In.on {w w' : World} {T : Tr} (h : In w T) (hb : ∀ b ∈ T.bl, w'.heap[b]? = w.heap[b]?) : In w' T := by
  induction T with
  | nil => trivial
  | node b c l v i r ihl ihr =>
    exact ⟨h.1.on (hb b (by simp [Tr.bl])), ihl h.2.1 (fun k hk => hb k (by simp [Tr.bl, hk])), ihr h.2.2 (fun k hk => hb k (by simp [Tr.bl, hk]))⟩
theorem In.fresh {w w' : World} {T : Tr} (h : In w T) (hg : Below w.heap.size w w') : In w' T := h.on fun b hb => hg.block b (h.lt b hb)
theorem In.chg {w w' : World} {T : Tr} {B : Nat → Prop} (h : In w T) (hg : Chg B w w') (hb : ∀ b ∈ T.bl, ¬ B b) : In w' T := h.on fun b hk => hg.block b (h.lt b hk) (hb b hk)
theorem In.drew {w : World} {T : Tr} (h : In w T) : In w.drew T := h.on fun _ _ => rfl
theorem In.alloc {w : World} {T : Tr} (h : In w T) (o : Obj) : In (w.alloc o) T := h.fresh ((Below.refl _ w).alloc (Nat.le_refl _) o)
theorem In.setCell {w : World} {T : Tr} (h : In w T) {p : Addr} (hp : p.block ∉ T.bl) (u : Value) : In (w.setCell p u) T := h.on fun b hb => Below.heap_setCell _ _ _ _ (fun e => hp (e ▸ hb))

/-- A new block of two cells, behind whatever else is made. -/
theorem new_two {w w1 : World} {x y : Value} {t : TypeId} (hg : Below (w.alloc (.cells #[x, y] t)).heap.size (w.alloc (.cells #[x, y] t)) w1) :
    w1.cell? ⟨w.heap.size, 0, none⟩ = some x ∧ w1.cell? ⟨w.heap.size, 1, none⟩ = some y ∧ (∀ j, w1.frozen? ⟨w.heap.size, j, none⟩ = false) ∧ w1.heap[w.heap.size]? = some (.cells #[x, y] t (0, 0)) := by
  have h0 : (w.alloc (.cells #[x, y] t)).heap[w.heap.size]? = some (.cells #[x, y] t (0, 0)) := heap_alloc_new w _
  have h : w1.heap[w.heap.size]? = some (.cells #[x, y] t (0, 0)) := by rw [hg.block _ (lt_of h0), h0]
  refine ⟨?_, ?_, fun j => frozen_of_row w1 _ j _ _ h, h⟩
  all_goals rw [cell_of_row _ _ _ _ _ _ h]; rfl
theorem new_four {w w1 : World} {x y z u : Value} {t : TypeId} (hg : Below (w.alloc (.cells #[x, y, z, u] t)).heap.size (w.alloc (.cells #[x, y, z, u] t)) w1) :
    w1.cell? ⟨w.heap.size, 0, none⟩ = some x ∧ w1.cell? ⟨w.heap.size, 1, none⟩ = some y ∧ w1.cell? ⟨w.heap.size, 2, none⟩ = some z ∧ w1.cell? ⟨w.heap.size, 3, none⟩ = some u ∧ (∀ j, w1.frozen? ⟨w.heap.size, j, none⟩ = false) ∧
    w1.heap[w.heap.size]? = some (.cells #[x, y, z, u] t (0, 0)) := by
  have h0 : (w.alloc (.cells #[x, y, z, u] t)).heap[w.heap.size]? = some (.cells #[x, y, z, u] t (0, 0)) := heap_alloc_new w _
  have h : w1.heap[w.heap.size]? = some (.cells #[x, y, z, u] t (0, 0)) := by rw [hg.block _ (lt_of h0), h0]
  refine ⟨?_, ?_, ?_, ?_, fun j => frozen_of_row w1 _ j _ _ h, h⟩
  all_goals rw [cell_of_row _ _ _ _ _ _ h]; rfl
/-- What only reads answers. -/
def Is (v : Value) (w : World) (e : Ending) (w' : World) : Prop := e = .returned v ∧ Below w.heap.size w w'
def Still (v : Value) (w : World) (e : Ending) (w' : World) : Prop := e = .returned v ∧ w = w'
theorem is_of {u v : Value} {w w' : World} (h : u = v) (g : Below w.heap.size w w') : Is v w (.returned u) w' := by subst h; exact ⟨rfl, g⟩
end Go.Proofs.YtnnjbonejbmgdaaGreat.Tree

/- What the calls of package rbtree that only read answer. Conditions: none. -/
namespace Go.Proofs.YtnnjbonejbmgdaaGreat.Tree
open Go.ChangeShapes Go.WideShapes Go.ChangeAt Go.RowKit
set_option linter.unusedVariables false
set_option linter.unusedSimpArgs false
set_option maxRecDepth 100000

theorem onLeft (w : World) {b : Nat} {c : Bool} {l r : Option Addr} {v i : Int} (h : Nd w b c l v i r) : Calls Tryz.prog 168 #[.pointer (some ⟨b, 0, none⟩)] w (Still (.pointer l) w) := by
  obtain ⟨c0, c1, c2, c3, c4, fz⟩ := h.cells
  clear h
  go_enter Tryz.func168, Tryz.ntmps168
  go_wp2
  go_ret; exact ⟨rfl, rfl⟩
theorem onRight (w : World) {b : Nat} {c : Bool} {l r : Option Addr} {v i : Int} (h : Nd w b c l v i r) : Calls Tryz.prog 169 #[.pointer (some ⟨b, 0, none⟩)] w (Still (.pointer r) w) := by
  obtain ⟨c0, c1, c2, c3, c4, fz⟩ := h.cells
  clear h
  go_enter Tryz.func169, Tryz.ntmps169
  go_wp2
  go_ret; exact ⟨rfl, rfl⟩
theorem isRed_nil (w : World) : Calls Tryz.prog 189 #[.pointer none] w (Still (.bool false) w) := by
  go_enter Tryz.func189, Tryz.ntmps189
  go_wp2
  go_ret; exact ⟨rfl, rfl⟩
theorem isRed_node (w : World) {b : Nat} {c : Bool} {l r : Option Addr} {v i : Int} (h : Nd w b c l v i r) : Calls Tryz.prog 189 #[.pointer (some ⟨b, 0, none⟩)] w (Still (.bool c) w) := by
  obtain ⟨c0, c1, c2, c3, c4, fz⟩ := h.cells
  clear h
  go_enter Tryz.func189, Tryz.ntmps189
  go_wp2
  go_ret; exact ⟨rfl, rfl⟩
theorem isRed (w : World) {T : Tr} (h : In w T) : Calls Tryz.prog 189 #[.pointer T.at] w (Still (.bool T.red) w) := by
  cases T with
  | nil => exact isRed_nil w
  | node b c l v i r => exact isRed_node w h.1
theorem tell_nil (w : World) : Calls Tryz.prog 180 #[.pointer none] w (Is (.tuple #[.agg #[.int .i64 0, .int .i64 0], .bool false]) w) := by
  go_enter Tryz.func180, Tryz.ntmps180
  go_wp2
  refine bodyPost_ret (v := .tuple #[.agg #[.int .i64 0, .int .i64 0], .bool false]) (by simp [results, Tryz.results180, go_sem]) rfl ?_
  exact ⟨rfl, by go_grown⟩
theorem tell_node (w : World) {b : Nat} {c : Bool} {l r : Option Addr} {v i : Int} (h : Nd w b c l v i r) : Calls Tryz.prog 180 #[.pointer (some ⟨b, 0, none⟩)] w (Is (.tuple #[.agg #[.int .i64 v, .int .i64 i], .bool true]) w) := by
  obtain ⟨c0, c1, c2, c3, c4, fz⟩ := h.cells
  have hb := h.lt
  clear h
  go_enter Tryz.func180, Tryz.ntmps180
  go_wp2
  refine bodyPost_ret (v := .tuple #[.agg #[.int .i64 v, .int .i64 i], .bool true]) (by simp [results, Tryz.results180, go_sem]) rfl ?_
  exact ⟨rfl, by go_grown⟩

def cmp1 (a b : Int) : Int := if a < b then -1 else if b < a then 1 else 0
theorem cmp64 (a b : Int) (w : World) : Calls Tryz.prog 187 #[.int .i64 a, .int .i64 b] w (Still (.int .i64 (cmp1 a b)) w) := by
  unfold cmp1
  rcases Int.lt_trichotomy a b with h | h | h
  · rw [if_pos h]
    go_enter Tryz.func187, Tryz.ntmps187
    go_wp2
    go_ret; exact ⟨rfl, rfl⟩
  · subst h
    rw [if_neg (by omega), if_neg (by omega)]
    go_enter Tryz.func187, Tryz.ntmps187
    go_wp2
    go_ret; exact ⟨rfl, rfl⟩
  · rw [if_neg (by omega), if_pos h]
    have h1 : ¬ a < b := by omega
    go_enter Tryz.func187, Tryz.ntmps187
    go_wp2
    go_ret; exact ⟨rfl, rfl⟩
theorem cmpInt (a b : Int) (w : World) : Calls Tryz.prog 188 #[.int .i64 a, .int .i64 b] w (Still (.int .i64 (cmp1 a b)) w) := by
  unfold cmp1
  rcases Int.lt_trichotomy a b with h | h | h
  · rw [if_pos h]
    go_enter Tryz.func188, Tryz.ntmps188
    go_wp2
    go_ret; exact ⟨rfl, rfl⟩
  · subst h
    rw [if_neg (by omega), if_neg (by omega)]
    go_enter Tryz.func188, Tryz.ntmps188
    go_wp2
    go_ret; exact ⟨rfl, rfl⟩
  · rw [if_neg (by omega), if_pos h]
    have h1 : ¬ a < b := by omega
    go_enter Tryz.func188, Tryz.ntmps188
    go_wp2
    go_ret; exact ⟨rfl, rfl⟩
def cmp2 (a b : Ky) : Int := if a.1 = b.1 then cmp1 a.2 b.2 else cmp1 a.1 b.1
theorem compare (a b : Ky) (w : World) : Calls Tryz.prog 179 #[.agg #[.int .i64 a.1, .int .i64 a.2], .agg #[.int .i64 b.1, .int .i64 b.2]] w (Is (.int .i64 (cmp2 a b)) w) := by
  have m1 := Lib.hid (fun w => cmp64 a.1 b.1 w)
  have m2 := Lib.hid (fun w => cmpInt a.2 b.2 w)
  unfold cmp2
  generalize cmp1 a.1 b.1 = x at *
  generalize cmp1 a.2 b.2 = y at *
  obtain ⟨a1, a2⟩ := a
  obtain ⟨b1, b2⟩ := b
  simp only at *
  by_cases h : a1 = b1
  · rw [if_pos h]
    subst h
    go_enter Tryz.func179, Tryz.ntmps179
    go_wp2_with (go_at_call 188; refine (m2.out _).mono ?_; rintro e w1 ⟨rfl, rfl⟩)
    go_ret; exact ⟨rfl, by go_grown⟩
  · rw [if_neg h]
    have h1 : (a1 == b1) = false := by simpa using h
    go_enter Tryz.func179, Tryz.ntmps179
    go_wp2_with (go_at_call 187; refine (m1.out _).mono ?_; rintro e w1 ⟨rfl, rfl⟩)
    go_ret; exact ⟨rfl, by go_grown⟩
theorem cmp2_pos (a b : Ky) : 0 < cmp2 a b ↔ lt b a := by
  unfold cmp2 cmp1 lt
  constructor
  · intro h; split at h <;> split at h <;> (try split at h) <;> omega
  · intro h; split <;> split <;> (try split) <;> omega
theorem cmp2_neg (a b : Ky) : cmp2 a b < 0 ↔ lt a b := by
  unfold cmp2 cmp1 lt
  constructor
  · intro h; split at h <;> split at h <;> (try split at h) <;> omega
  · intro h; split <;> split <;> (try split) <;> omega
def num (s : Bool) : Int := if s then 1 else 0
theorem sideOf (a b : Ky) (w : World) : Calls Tryz.prog 183 #[.agg #[.int .i64 a.1, .int .i64 a.2], .agg #[.int .i64 b.1, .int .i64 b.2]] w (Is (.int .i64 (num (side a b))) w) := by
  have m1 := Lib.hid (fun w => compare a b w)
  have hg := Below.refl w.heap.size w
  by_cases h : lt b a
  · rw [show num (side a b) = 1 by simp [num, side, h]]
    have h1 := (cmp2_pos a b).2 h
    generalize cmp2 a b = x at *
    go_enter Tryz.func183, Tryz.ntmps183
    go_wp2_with (go_at_call 179; refine (m1.out _).mono ?_; rintro e w1 ⟨rfl, hg1⟩; replace hg := fresh_trans ((hg.alloc (Nat.le_refl _) _).alloc (by simp) _) hg1; clear hg1)
    go_ret; exact ⟨rfl, hg⟩
  · rw [show num (side a b) = 0 by simp [num, side, h]]
    have h1 : ¬ 0 < cmp2 a b := fun h2 => h ((cmp2_pos a b).1 h2)
    generalize cmp2 a b = x at *
    go_enter Tryz.func183, Tryz.ntmps183
    go_wp2_with (go_at_call 179; refine (m1.out _).mono ?_; rintro e w1 ⟨rfl, hg1⟩; replace hg := fresh_trans ((hg.alloc (Nat.le_refl _) _).alloc (by simp) _) hg1; clear hg1)
    go_ret; exact ⟨rfl, hg⟩

def Tr.size (T : Tr) : Nat := T.bl.length
def Tr.endT : Tr → Tr
  | .nil => .nil
  | .node b c l v i .nil => .node b c l v i .nil
  | .node _ _ _ _ _ (.node b c l v i r) => (Tr.node b c l v i r).endT
def Tr.headT : Tr → Tr
  | .nil => .nil
  | .node b c .nil v i r => .node b c .nil v i r
  | .node _ _ (.node b c l v i r) _ _ _ => (Tr.node b c l v i r).headT
def LastI (w : World) (T : Tr) (k : Nat) (n nx : Value) (wr : World) : Prop :=
  ∃ b c l v i r, n = .pointer (some ⟨b, 0, none⟩) ∧ nx = .pointer r.at ∧ In w (.node b c l v i r) ∧ (Tr.node b c l v i r).endT = T.endT ∧ r.size = k ∧ wr = w
def HeadI (w : World) (T : Tr) (k : Nat) (n nx : Value) (wr : World) : Prop :=
  ∃ b c l v i r, n = .pointer (some ⟨b, 0, none⟩) ∧ nx = .pointer l.at ∧ In w (.node b c l v i r) ∧ (Tr.node b c l v i r).headT = T.headT ∧ l.size = k ∧ wr = w

theorem last_nil (w : World) (f : Nat) : Calls Tryz.prog 182 #[.pointer none, .func (.func f) #[] #[]] w (Still (.pointer none) w) := by
  go_enter Tryz.func182, Tryz.ntmps182
  go_wp2
  go_ret; exact ⟨rfl, rfl⟩
theorem last_right (w : World) (T : Tr) (h : In w T) : Calls Tryz.prog 182 #[.pointer T.at, .func (.func 169) #[] #[]] w (Still (.pointer T.endT.at) w) := by
  cases T with
  | nil => exact last_nil w _
  | node b c l v i r =>
    have hT : LastI w (.node b c l v i r) r.size (.pointer (some ⟨b, 0, none⟩)) (.pointer r.at) w := ⟨b, c, l, v, i, r, rfl, rfl, h, rfl, rfl, rfl⟩
    have A := Lib.hid (onRight w h.1)
    show Calls Tryz.prog 182 #[.pointer (some ⟨b, 0, none⟩), .func (.func 169) #[] #[]] w _
    clear h
    generalize r.size = n0 at *
    generalize r.at = ra at *
    generalize Tr.node b c l v i r = T0 at *
    go_enter Tryz.func182, Tryz.ntmps182
    go_wp2_with (go_at_call 169; refine (A.out).mono ?_; rintro e w1 ⟨rfl, rfl⟩)
    go_loopg [0, 5] n0 (fun k n nx wr => LastI w T0 k n nx wr)
    case atStart => exact hT
    case round =>
      clear A hT
      obtain ⟨b', c', l', v', i', r', rfl, rfl, hin, hE, rfl, rfl⟩ := hrel
      cases r' with
      | nil =>
        simp only [Tr.at]
        clear hin
        go_wp2_with fail
        go_ret
        exact ⟨by rw [← hE]; rfl, rfl⟩
      | node b2 c2 l2 v2 i2 r2 =>
        have A := Lib.hid (onRight wr hin.2.2.1)
        have H := Lib.hid hin
        have HE := Lib.hid hE
        clear hin hE
        simp only [Tr.at]
        go_wp2_with (go_at_call 169; refine (A.out).mono ?_; rintro e w1 ⟨rfl, rfl⟩)
        go_roundg r2.size
        case measure => simp [Tr.size, Tr.bl]; omega
        case rel => exact ⟨b2, c2, l2, v2, i2, r2, rfl, rfl, H.out.2.2, by rw [← HE.out]; rfl, rfl, rfl⟩
theorem last_left (w : World) (T : Tr) (h : In w T) : Calls Tryz.prog 182 #[.pointer T.at, .func (.func 168) #[] #[]] w (Still (.pointer T.headT.at) w) := by
  cases T with
  | nil => exact last_nil w _
  | node b c l v i r =>
    have hT : HeadI w (.node b c l v i r) l.size (.pointer (some ⟨b, 0, none⟩)) (.pointer l.at) w := ⟨b, c, l, v, i, r, rfl, rfl, h, rfl, rfl, rfl⟩
    have A := Lib.hid (onLeft w h.1)
    show Calls Tryz.prog 182 #[.pointer (some ⟨b, 0, none⟩), .func (.func 168) #[] #[]] w _
    clear h
    generalize l.size = n0 at *
    generalize l.at = ra at *
    generalize Tr.node b c l v i r = T0 at *
    go_enter Tryz.func182, Tryz.ntmps182
    go_wp2_with (go_at_call 168; refine (A.out).mono ?_; rintro e w1 ⟨rfl, rfl⟩)
    go_loopg [0, 5] n0 (fun k n nx wr => HeadI w T0 k n nx wr)
    case atStart => exact hT
    case round =>
      clear A hT
      obtain ⟨b', c', l', v', i', r', rfl, rfl, hin, hE, rfl, rfl⟩ := hrel
      cases l' with
      | nil =>
        simp only [Tr.at]
        clear hin
        go_wp2_with fail
        go_ret
        exact ⟨by rw [← hE]; rfl, rfl⟩
      | node b2 c2 l2 v2 i2 r2 =>
        have A := Lib.hid (onLeft wr hin.2.1.1)
        have H := Lib.hid hin
        have HE := Lib.hid hE
        clear hin hE
        simp only [Tr.at]
        go_wp2_with (go_at_call 168; refine (A.out).mono ?_; rintro e w1 ⟨rfl, rfl⟩)
        go_roundg l2.size
        case measure => simp [Tr.size, Tr.bl]; omega
        case rel => exact ⟨b2, c2, l2, v2, i2, r2, rfl, rfl, H.out.2.1, by rw [← HE.out]; rfl, rfl, rfl⟩
end Go.Proofs.YtnnjbonejbmgdaaGreat.Tree

/- What Min, Next and Has of package rbtree answer. Conditions: the tree's keys are in order. -/
namespace Go.Proofs.YtnnjbonejbmgdaaGreat.Tree
open Go.ChangeShapes Go.WideShapes Go.ChangeAt Go.RowKit
set_option linter.unusedVariables false
set_option linter.unusedSimpArgs false
set_option maxRecDepth 100000

/-- A tree behind its pointer. -/
def Top (w : World) (t : Nat) (T : Tr) : Prop := w.heap[t]? = some (.cells #[.pointer T.at, .int .i64 T.keys.length] 175 (0, 0)) ∧ In w T
theorem Top.cells {w : World} {t : Nat} {T : Tr} (h : Top w t T) : w.cell? ⟨t, 0, none⟩ = some (.pointer T.at) ∧ w.cell? ⟨t, 1, none⟩ = some (.int .i64 T.keys.length) ∧ (∀ j, w.frozen? ⟨t, j, none⟩ = false) := by
  refine ⟨?_, ?_, fun j => frozen_of_row w t j _ _ h.1⟩
  all_goals rw [cell_of_row w t _ _ _ _ h.1]; rfl
theorem Top.lt {w : World} {t : Nat} {T : Tr} (h : Top w t T) : t < w.heap.size := lt_of h.1
theorem Top.fresh {w w' : World} {t : Nat} {T : Tr} (h : Top w t T) (hg : Below w.heap.size w w') : Top w' t T := ⟨by rw [hg.block t h.lt, h.1], h.2.fresh hg⟩

/-- The key of a tree's top, and whether there is one. -/
def Tr.key : Tr → Value
  | .nil => .tuple #[.agg #[.int .i64 0, .int .i64 0], .bool false]
  | .node _ _ _ v i _ => .tuple #[.agg #[.int .i64 v, .int .i64 i], .bool true]
theorem tells (w : World) {T : Tr} (h : In w T) : Calls Tryz.prog 180 #[.pointer T.at] w (Is T.key w) := by
  cases T with
  | nil => exact tell_nil w
  | node b c l v i r => exact tell_node w h.1
def has (k : Ky) : Tr → Bool
  | .nil => false
  | .node _ _ l v i r => if (v, i) = k then true else if side k (v, i) then has k r else has k l

theorem boxed (w : World) (a b : Int) : (w.alloc (.cells #[.int .i64 a, .int .i64 b] 155)).cell? ⟨w.heap.size, 0, none⟩ = some (.int .i64 a) ∧ (w.alloc (.cells #[.int .i64 a, .int .i64 b] 155)).cell? ⟨w.heap.size, 1, none⟩ = some (.int .i64 b) ∧
    w.heap.size < (w.alloc (.cells #[.int .i64 a, .int .i64 b] 155)).heap.size := by
  have h : (w.alloc (.cells #[.int .i64 a, .int .i64 b] 155)).heap[w.heap.size]? = some (.cells #[.int .i64 a, .int .i64 b] 155 (0, 0)) := (MapKept.heap_alloc w _).1
  refine ⟨?_, ?_, lt_of h⟩
  all_goals rw [cell_of_row _ _ _ _ _ _ h]; rfl
def HasI (W : World) (k : Ky) (T : Tr) (g : Nat) (n : Value) (wr : World) : Prop := ∃ S, n = .pointer S.at ∧ In wr S ∧ has k S = has k T ∧ S.size = g ∧ Below W.heap.size W wr
set_option maxHeartbeats 2000000 in
theorem hass (w : World) (t : Nat) (T : Tr) (k : Ky) (h : Top w t T) : Calls Tryz.prog 172 #[.pointer (some ⟨t, 0, none⟩), .agg #[.int .i64 k.1, .int .i64 k.2]] w (Is (.bool (has k T)) w) := by
  obtain ⟨c0, c1, fz⟩ := h.cells
  have ht := h.lt
  have H := Lib.hid h.2
  clear h
  obtain ⟨k1, k2⟩ := k
  simp only
  go_enter Tryz.func172, Tryz.ntmps172
  go_wp2_with fail
  obtain ⟨d0, d1, hd⟩ := boxed w k1 k2
  have hg0 := (Below.refl w.heap.size w).alloc (Nat.le_refl _) (.cells #[.int .i64 k1, .int .i64 k2] 155)
  have H1 := Lib.hid (H.out.alloc (.cells #[.int .i64 k1, .int .i64 k2] 155))
  clear H c0 c1 fz
  generalize w.alloc (.cells #[.int .i64 k1, .int .i64 k2] 155) = W at *
  generalize hs : w.heap.size = s at *
  go_loopg [5] T.size (fun g n wr => HasI W (k1, k2) T g n wr)
  case atStart => exact ⟨T, rfl, H1.out, rfl, rfl, Below.refl _ _⟩
  case round =>
    clear H1
    obtain ⟨S, rfl, hin, hE, rfl, hg⟩ := hrel
    have e0 := (hg.cell (p := ⟨s, 0, none⟩) hd).trans d0
    have e1 := (hg.cell (p := ⟨s, 1, none⟩) hd).trans d1
    have HE := Lib.hid hE
    clear hE
    have HG := Lib.hid (show ∀ n, Below w.heap.size w (wr.drewN n) from fun n => by rw [hs]; exact hg0.trans ((fresh_trans hg (drawn _ _)).mono (by omega)))
    cases S with
    | nil =>
      rw [at_nil]
      clear hin d0 d1
      go_wp2_with fail
      go_quiet (fail)
      go_wp2_with fail
      go_ret
      exact is_of (by rw [← HE.out]; simp [has]) (HG.out _)
    | node b c l v i r =>
      obtain ⟨n0, n1, n2, n3, n4, fz⟩ := hin.1.cells
      have hb := hin.1.lt
      have H2 := Lib.hid hin
      have D := Lib.hid (fun w => sideOf (k1, k2) (v, i) w)
      clear hin d0 d1
      rw [at_node]
      by_cases hv : v = k1 ∧ i = k2
      · obtain ⟨rfl, rfl⟩ := hv
        go_wp2_with fail
        go_quiet (fail)
        go_wp2_with fail
        go_ret
        exact is_of (by rw [← HE.out]; simp [has]) (HG.out _)
      · have hh : has (k1, k2) (.node b c l v i r) = if side (k1, k2) (v, i) then has (k1, k2) r else has (k1, k2) l := by
          rw [has, if_neg (fun e => hv (by simpa using e))]
        rw [hh] at HE
        have hq : (v == k1) = false ∨ (v = k1 ∧ (i == k2) = false) := by
          by_cases h1 : v = k1
          · exact .inr ⟨h1, by simpa using fun e => hv ⟨h1, e⟩⟩
          · exact .inl (by simpa using h1)
        clear hv hh
        cases hsd : side (k1, k2) (v, i)
        all_goals
          rw [hsd] at HE D
          simp only [num, if_true, if_false, Bool.false_eq_true] at HE D
          clear hsd
          rcases hq with hq | ⟨rfl, hq⟩
        all_goals
          go_wp2_with fail
          go_quiet (fail)
          go_wp2_with fail
          go_region_with (go_at_call 183; refine (D.out _).mono ?_; rintro e w1 ⟨rfl, hg1⟩; have e3 := (hg1.cell (p := ⟨b, 3, none⟩) hb).trans n3; have e4 := (hg1.cell (p := ⟨b, 4, none⟩) hb).trans n4; have hg2 : Below wr.heap.size wr w1 := ⟨hg1.os, hg1.tape, hg1.output, hg1.size, hg1.block⟩; clear hg1)
        all_goals
          go_wp2_with fail
          first
            | (go_roundg l.size; (case measure => simp [Tr.size, Tr.bl]; omega); (case rel => exact ⟨l, rfl, H2.out.2.1.fresh hg2, HE.out, rfl, fresh_trans hg hg2⟩))
            | (go_roundg r.size; (case measure => simp [Tr.size, Tr.bl]; omega); (case rel => exact ⟨r, rfl, H2.out.2.2.fresh hg2, HE.out, rfl, fresh_trans hg hg2⟩))
theorem has_mem (k : Ky) (T : Tr) (hs : Sorted T.keys) : has k T = decide (k ∈ T.keys) := by
  induction T with
  | nil => simp [has, Tr.keys]
  | node b c l v i r ihl ihr =>
    obtain ⟨s1, s2, s3, s4⟩ := sorted_node hs
    unfold has
    by_cases e : (v, i) = k
    · rw [if_pos e]; simp [Tr.keys, e]
    · rw [if_neg e]
      by_cases h : lt (v, i) k
      · rw [if_pos (by simp [side, h]), ihr s2]
        have hl : k ∉ l.keys := fun h2 => lt_asymm h (s3 k h2)
        have e3 : k ≠ (v, i) := fun e2 => e e2.symm
        simp [Tr.keys, hl, e3]
      · rw [if_neg (by simp [side, h]), ihl s1]
        have hr : k ∉ r.keys := fun h2 => h (s4 k h2)
        have e3 : k ≠ (v, i) := fun e2 => e e2.symm
        simp [Tr.keys, hr, e3]

/-! ### the first one, and the first one behind a key -/
theorem in_headT {w : World} : ∀ {T : Tr}, In w T → In w T.headT
  | .nil, _ => trivial
  | .node b c .nil v i r, h => h
  | .node b c (.node b' c' l' v' i' r') v i r, h => by
    rw [show (Tr.node b c (.node b' c' l' v' i' r') v i r).headT = (Tr.node b' c' l' v' i' r').headT from rfl]
    exact in_headT h.2.1
theorem in_endT {w : World} : ∀ {T : Tr}, In w T → In w T.endT
  | .nil, _ => trivial
  | .node b c l v i .nil, h => h
  | .node b c l v i (.node b' c' l' v' i' r'), h => by
    rw [show (Tr.node b c l v i (.node b' c' l' v' i' r')).endT = (Tr.node b' c' l' v' i' r').endT from rfl]
    exact in_endT h.2.2
/-- A key that may not be there. -/
def keyV : Option Ky → Value
  | none => .tuple #[.agg #[.int .i64 0, .int .i64 0], .bool false]
  | some k => .tuple #[.agg #[.int .i64 k.1, .int .i64 k.2], .bool true]
def Tr.top : Tr → Option Ky
  | .nil => none
  | .node _ _ _ v i _ => some (v, i)
theorem key_top (T : Tr) : T.key = keyV T.top := by cases T <;> rfl
theorem top_head : ∀ (T : Tr), T.headT.top = T.keys.head?
  | .nil => rfl
  | .node b c .nil v i r => rfl
  | .node b c (.node b' c' l' v' i' r') v i r => by
    rw [show (Tr.node b c (.node b' c' l' v' i' r') v i r).headT = (Tr.node b' c' l' v' i' r').headT from rfl, top_head (.node b' c' l' v' i' r')]
    simp [Tr.keys]
theorem keyV_parts (o : Option Ky) : ∃ a b s, keyV o = .tuple #[.agg #[.int .i64 a, .int .i64 b], .bool s] := by
  cases o with
  | none => exact ⟨_, _, _, rfl⟩
  | some k => exact ⟨_, _, _, rfl⟩
theorem ends (w : World) (t : Nat) (T : Tr) (h : Top w t T) : Calls Tryz.prog 170 #[.pointer (some ⟨t, 0, none⟩), .func (.func 168) #[] #[]] w (Is (keyV T.keys.head?) w) := by
  obtain ⟨c0, c1, fz⟩ := h.cells
  have ht := h.lt
  have A := Lib.hid (fun w h => last_left w T h)
  have B := Lib.hid (fun w (h : In w T) => tells w (in_headT h))
  have H := Lib.hid h.2
  clear h
  rw [key_top, top_head] at B
  generalize T.keys.head? = o at *
  obtain ⟨x, y, s, e⟩ := keyV_parts o
  rw [e] at B ⊢
  clear e
  generalize T.headT.at = ha at *
  have hg := Below.refl w.heap.size w
  go_enter Tryz.func170, Tryz.ntmps170
  go_wp2_with (first
    | (go_at_call 182; refine (A.out _ (H.out.alloc _)).mono ?_; rintro e w1 ⟨rfl, rfl⟩)
    | (go_at_call 180; refine (B.out _ (H.out.alloc _)).mono ?_; rintro e w1 ⟨rfl, hg1⟩; replace hg := fresh_trans (hg.alloc (Nat.le_refl _) _) hg1; obtain ⟨d0, d1, dz, dd⟩ := new_two hg1; clear hg1))
  refine bodyPost_ret (v := .tuple #[.agg #[.int .i64 x, .int .i64 y], .bool s]) (by simp [results, Tryz.results170, go_sem, d0, d1]) rfl ?_
  exact ⟨rfl, (hg.setCell (Nat.le_refl _) _).setCell (Nat.le_refl _) _⟩
theorem mins (w : World) (t : Nat) (T : Tr) (h : Top w t T) : Calls Tryz.prog 146 #[.pointer (some ⟨t, 0, none⟩)] w (Is (keyV T.keys.head?) w) := by
  have A := Lib.hid (fun w h => ends w t T h)
  have H := Lib.hid h
  clear h
  generalize T.keys.head? = o at *
  obtain ⟨x, y, s, e⟩ := keyV_parts o
  rw [e] at A ⊢
  clear e
  have hg := Below.refl w.heap.size w
  go_enter Tryz.func146, Tryz.ntmps146
  go_wp2_with ((go_at_call 170; refine (A.out _ (H.out.fresh ((Below.refl _ w).alloc (Nat.le_refl _) _))).mono ?_; rintro e w1 ⟨rfl, hg1⟩; replace hg := fresh_trans (hg.alloc (Nat.le_refl _) _) hg1; obtain ⟨d0, d1, dz, dd⟩ := new_two hg1; clear hg1))
  refine bodyPost_ret (v := .tuple #[.agg #[.int .i64 x, .int .i64 y], .bool s]) (by simp [results, Tryz.results146, go_sem, d0, d1]) rfl ?_
  exact ⟨rfl, (hg.setCell (Nat.le_refl _) _).setCell (Nat.le_refl _) _⟩

/-- The first one behind a key. -/
def nxt (k : Ky) : Tr → Tr → Tr
  | best, .nil => best
  | best, .node b c l v i r => if lt k (v, i) then nxt k (.node b c l v i r) l else nxt k best r
theorem find_append {p : Ky → Bool} {l r : List Ky} : (l ++ r).find? p = (l.find? p).or (r.find? p) := by simp
theorem nxt_top (k : Ky) (T : Tr) : ∀ best, Sorted T.keys → (nxt k best T).top = (T.keys.find? (fun x => decide (lt k x))).or best.top := by
  induction T with
  | nil => intro best _; simp [nxt, Tr.keys]
  | node b c l v i r ihl ihr =>
    intro best hs
    obtain ⟨s1, s2, s3, s4⟩ := sorted_node hs
    unfold nxt
    simp only [Tr.keys]
    rw [find_append]
    by_cases h : lt k (v, i)
    · rw [if_pos h, ihl _ s1]
      simp [List.find?_cons, h, Tr.top]
    · rw [if_neg h, ihr _ s2]
      have e : l.keys.find? (fun x => decide (lt k x)) = none := by
        rw [List.find?_eq_none]
        intro x hx
        simp
        exact fun h2 => h (lt_trans h2 (s3 x hx))
      simp [e, List.find?_cons, h]
end Go.Proofs.YtnnjbonejbmgdaaGreat.Tree

/- What Next of package rbtree answers. Conditions: the tree's keys are in order. -/
namespace Go.Proofs.YtnnjbonejbmgdaaGreat.Tree
open Go.ChangeShapes Go.WideShapes Go.ChangeAt Go.RowKit
set_option linter.unusedVariables false
set_option linter.unusedSimpArgs false
set_option maxRecDepth 100000

def NextI (W : World) (k : Ky) (T : Tr) (g : Nat) (bst n : Value) (wr : World) : Prop := ∃ B S, bst = .pointer (Tr.at B) ∧ n = .pointer (Tr.at S) ∧ In wr B ∧ In wr S ∧ nxt k B S = nxt k .nil T ∧ S.size = g ∧ Below W.heap.size W wr
set_option maxHeartbeats 2000000 in
theorem nexts (w : World) (t : Nat) (T : Tr) (k : Ky) (h : Top w t T) (hs : Sorted T.keys) :
    Calls Tryz.prog 159 #[.pointer (some ⟨t, 0, none⟩), .agg #[.int .i64 k.1, .int .i64 k.2]] w (Is (keyV (T.keys.find? (fun x => decide (lt k x)))) w) := by
  have hk : (nxt k .nil T).key = keyV (T.keys.find? (fun x => decide (lt k x))) := by rw [key_top, nxt_top k T .nil hs]; simp [Tr.top]
  rw [← hk]
  obtain ⟨c0, c1, fz⟩ := h.cells
  have ht := h.lt
  have H := Lib.hid h.2
  clear h hk hs
  obtain ⟨k1, k2⟩ := k
  simp only
  go_enter Tryz.func159, Tryz.ntmps159
  go_wp2_with fail
  have D0 : Hid (∀ wr, Below ((w.alloc (.cells #[.int .i64 k1, .int .i64 k2] 155)).alloc (.cells #[.int .i64 0, .int .i64 0] 155)).heap.size ((w.alloc (.cells #[.int .i64 k1, .int .i64 k2] 155)).alloc (.cells #[.int .i64 0, .int .i64 0] 155)) wr →
      (wr.cell? ⟨w.heap.size, 0, none⟩ = some (.int .i64 k1) ∧ wr.cell? ⟨w.heap.size, 1, none⟩ = some (.int .i64 k2) ∧ wr.cell? ⟨w.heap.size + 1, 0, none⟩ = some (.int .i64 0) ∧ wr.cell? ⟨w.heap.size + 1, 1, none⟩ = some (.int .i64 0) ∧
      (∀ j, wr.frozen? ⟨w.heap.size + 1, j, none⟩ = false)) ∧ Below w.heap.size w wr ∧ w.heap.size + 1 < wr.heap.size) := by
    intro wr hwr
    have q1 := (Below.refl _ (w.alloc (.cells #[.int .i64 k1, .int .i64 k2] 155))).alloc (Nat.le_refl _) (.cells #[.int .i64 0, .int .i64 0] 155)
    obtain ⟨d0, d1, _, _⟩ := new_two (fresh_trans q1 hwr)
    obtain ⟨d2, d3, dz, _⟩ := new_two hwr
    have e : (w.alloc (.cells #[.int .i64 k1, .int .i64 k2] 155)).heap.size = w.heap.size + 1 := by simp
    rw [e] at d2 d3 dz
    refine ⟨⟨d0, d1, d2, d3, dz⟩, fresh_trans ((Below.refl _ w).alloc (Nat.le_refl _) _) (fresh_trans q1 hwr), ?_⟩
    have := hwr.size
    simp at this
    omega
  have H1 := Lib.hid ((H.out.alloc (.cells #[.int .i64 k1, .int .i64 k2] 155)).alloc (.cells #[.int .i64 0, .int .i64 0] 155))
  clear H c0 c1 fz
  generalize (w.alloc (.cells #[.int .i64 k1, .int .i64 k2] 155)).alloc (.cells #[.int .i64 0, .int .i64 0] 155) = W at *
  generalize hsz : w.heap.size = s at *
  go_loopg [6, 7] T.size (fun g b n wr => NextI W (k1, k2) T g b n wr)
  case atStart => exact ⟨.nil, T, rfl, rfl, trivial, H1.out, rfl, rfl, Below.refl _ _⟩
  case round =>
    clear H1
    obtain ⟨B, S, rfl, rfl, hB, hin, hE, rfl, hg⟩ := hrel
    obtain ⟨⟨d0, d1, d2, d3, dz⟩, hgw, hsl⟩ := D0.out wr hg
    have HE := Lib.hid hE
    have HB := Lib.hid hB
    clear hE hB
    cases S with
    | nil =>
      rw [at_nil]
      have F := Lib.hid (fun w h => tells w (T := B) h)
      have HK : Hid (keyV B.top = (nxt (k1, k2) .nil T).key) := by
        show keyV B.top = (nxt (k1, k2) .nil T).key
        rw [← key_top]
        exact congrArg Tr.key HE.out
      clear hin HE
      rw [key_top] at F
      generalize B.top = o at *
      obtain ⟨x, y, z, e⟩ := keyV_parts o
      rw [e] at F HK
      clear e
      go_wp2_with (go_at_call 180; refine (F.out _ HB.out).mono ?_; rintro e w1 ⟨rfl, hg1⟩; obtain ⟨⟨f0, f1, f2, f3, fz⟩, fg, fs⟩ := D0.out w1 (fresh_trans hg hg1))
      refine bodyPost_ret (v := .tuple #[.agg #[.int .i64 x, .int .i64 y], .bool z]) (by simp [results, Tryz.results159, go_sem, f2, f3]) rfl ?_
      refine is_of HK.out ?_
      rw [hsz]
      exact (fg.setCell (by simp) _).setCell (by simp) _
    | node b c l v i r =>
      obtain ⟨n0, n1, n2, n3, n4, fz⟩ := hin.1.cells
      have hb := hin.1.lt
      have H2 := Lib.hid hin
      have D := Lib.hid (fun w => compare (k1, k2) (v, i) w)
      have hcl := cmp2_neg (k1, k2) (v, i)
      clear hin
      rw [at_node]
      simp only at D
      by_cases hlt : lt (k1, k2) (v, i)
      · have hc := hcl.2 hlt
        have HE2 : Hid (nxt (k1, k2) (.node b c l v i r) l = nxt (k1, k2) .nil T) := by
          have := HE.out
          rw [nxt, if_pos hlt] at this
          exact this
        clear HE hcl hlt
        generalize cmp2 (k1, k2) (v, i) = x at *
        go_wp2_with fail
        go_region_with (go_at_call 179; refine (D.out _).mono ?_; rintro e w1 ⟨rfl, hg1⟩; have hg2 : Below wr.heap.size wr w1 := ⟨hg1.os, hg1.tape, hg1.output, hg1.size, hg1.block⟩; clear hg1)
        all_goals
          go_wp2_with (go_at_call 168; refine (onLeft _ (H2.out.fresh hg2).1).mono ?_; rintro e w2 ⟨rfl, rfl⟩)
          go_roundg l.size
          case measure => simp [Tr.size, Tr.bl]; omega
          case rel => exact ⟨.node b c l v i r, l, rfl, rfl, H2.out.fresh hg2, H2.out.2.1.fresh hg2, HE2.out, rfl, fresh_trans hg hg2⟩
      · have hc : ¬ cmp2 (k1, k2) (v, i) < 0 := fun h => hlt (hcl.1 h)
        have HE2 : Hid (nxt (k1, k2) B r = nxt (k1, k2) .nil T) := by
          have := HE.out
          rw [nxt, if_neg hlt] at this
          exact this
        clear HE hcl hlt
        generalize cmp2 (k1, k2) (v, i) = x at *
        go_wp2_with fail
        go_region_with (go_at_call 179; refine (D.out _).mono ?_; rintro e w1 ⟨rfl, hg1⟩; have hg2 : Below wr.heap.size wr w1 := ⟨hg1.os, hg1.tape, hg1.output, hg1.size, hg1.block⟩; clear hg1)
        all_goals
          go_wp2_with (go_at_call 169; refine (onRight _ (H2.out.fresh hg2).1).mono ?_; rintro e w2 ⟨rfl, rfl⟩)
          go_roundg r.size
          case measure => simp [Tr.size, Tr.bl]; omega
          case rel => exact ⟨B, r, rfl, rfl, HB.out.fresh hg2, H2.out.2.2.fresh hg2, HE2.out, rfl, fresh_trans hg hg2⟩
end Go.Proofs.YtnnjbonejbmgdaaGreat.Tree

/- What turn and part of package rbtree do. Conditions: the nodes lie apart. -/
namespace Go.Proofs.YtnnjbonejbmgdaaGreat.Tree
open Go.ChangeShapes Go.WideShapes Go.ChangeAt Go.RowKit
set_option linter.unusedVariables false
set_option linter.unusedSimpArgs false
set_option maxRecDepth 100000

/-- A tree told, and what has changed. -/
def Wr (T : Tr) (B : Nat → Prop) (w : World) (e : Ending) (w' : World) : Prop := e = .returned (.pointer T.at) ∧ In w' T ∧ Chg B w w'

theorem nodup_node {b : Nat} {c : Bool} {l r : Tr} {v i : Int} (h : (Tr.node b c l v i r).bl.Nodup) : b ∉ l.bl ∧ b ∉ r.bl ∧ l.bl.Nodup ∧ r.bl.Nodup ∧ (∀ k ∈ l.bl, k ∉ r.bl) := by
  simp only [Tr.bl, List.nodup_cons, List.mem_append, not_or, List.nodup_append] at h
  exact ⟨h.1.1, h.1.2, h.2.1, h.2.2.1, fun k h1 h2 => h.2.2.2 k h1 k h2 rfl⟩

theorem turn_left (w : World) (n u : Nat) (c d : Bool) (A B C : Tr) (v i v' i' : Int) (h : In w (.node n c A v i (.node u d B v' i' C))) (hn : (Tr.node n c A v i (.node u d B v' i' C)).bl.Nodup) :
    Calls Tryz.prog 190 #[.pointer (some ⟨n, 0, none⟩), .int .i64 0] w (Wr (.node u c (.node n true A v i B) v' i' C) (fun k => k = n ∨ k = u) w) := by
  obtain ⟨h1, h2, h3, h4, h5⟩ := h
  obtain ⟨m1, m2, m3, m4, m5⟩ := nodup_node hn
  obtain ⟨q1, q2, q3, q4, q5⟩ := nodup_node m4
  simp only [Tr.bl, List.mem_cons, List.mem_append, not_or] at m2 m5
  obtain ⟨a0, a1, a2, a3, a4, af⟩ := h1.cells
  obtain ⟨b0, b1, b2, b3, b4, bf⟩ := h3.cells
  have hne : ¬ n = u := m2.1
  have hne' : ¬ u = n := fun e => m2.1 e.symm
  have K := Lib.hid (And.intro h1 (And.intro h2 (And.intro h3 (And.intro h4 h5))))
  rw [at_node] at a4
  clear h1 h2 h3 h4 h5
  go_enter Tryz.func190, Tryz.ntmps190
  go_wp2_with fail
  go_region
  go_wp2_with fail
  go_ret
  have chg : Chg (fun k => k = n ∨ k = u) w ((((w.setCell ⟨n, 4, none⟩ (.pointer B.at)).setCell ⟨u, 3, none⟩ (.pointer (some ⟨n, 0, none⟩))).setCell ⟨u, 2, none⟩ (.bool c)).setCell ⟨n, 2, none⟩ (.bool true)).drew :=
    (((((Chg.refl _ w).setCell (fun _ => .inl rfl) _).setCell (fun _ => .inr rfl) _).setCell (fun _ => .inr rfl) _).setCell (fun _ => .inl rfl) _).drew
  obtain ⟨h1, h2, h3, h4, h5⟩ := K.out
  refine ⟨rfl, ⟨?_, ⟨?_, h2.chg chg ?_, h4.chg chg ?_⟩, h5.chg chg ?_⟩, chg⟩
  · exact (((h3.other hne' _).setL (some ⟨n, 0, none⟩)).setC c).other hne' _
  · exact (((h1.setR B.at).other hne _).other hne _).setC true
  · rintro b hb (rfl | rfl)
    · exact m1 hb
    · exact (m5 _ hb).1 rfl
  · rintro b hb (rfl | rfl)
    · exact m2.2.1 hb
    · exact q1 hb
  · rintro b hb (rfl | rfl)
    · exact m2.2.2 hb
    · exact q2 hb
theorem turn_right (w : World) (n u : Nat) (c d : Bool) (A B C : Tr) (v i v' i' : Int) (h : In w (.node n c (.node u d C v' i' B) v i A)) (hn : (Tr.node n c (.node u d C v' i' B) v i A).bl.Nodup) :
    Calls Tryz.prog 190 #[.pointer (some ⟨n, 0, none⟩), .int .i64 1] w (Wr (.node u c C v' i' (.node n true B v i A)) (fun k => k = n ∨ k = u) w) := by
  obtain ⟨h1, ⟨h3, h5, h4⟩, h2⟩ := h
  obtain ⟨m1, m2, m3, m4, m5⟩ := nodup_node hn
  obtain ⟨q1, q2, q3, q4, q5⟩ := nodup_node m3
  simp only [Tr.bl, List.mem_cons, List.mem_append, not_or] at m1 m5
  obtain ⟨a0, a1, a2, a3, a4, af⟩ := h1.cells
  obtain ⟨b0, b1, b2, b3, b4, bf⟩ := h3.cells
  have hne : ¬ n = u := m1.1
  have hne' : ¬ u = n := fun e => m1.1 e.symm
  have K := Lib.hid (And.intro h1 (And.intro h2 (And.intro h3 (And.intro h4 h5))))
  rw [at_node] at a3
  clear h1 h2 h3 h4 h5
  go_enter Tryz.func190, Tryz.ntmps190
  go_wp2_with fail
  go_region
  go_wp2_with fail
  go_ret
  have chg : Chg (fun k => k = n ∨ k = u) w ((((w.setCell ⟨n, 3, none⟩ (.pointer B.at)).setCell ⟨u, 4, none⟩ (.pointer (some ⟨n, 0, none⟩))).setCell ⟨u, 2, none⟩ (.bool c)).setCell ⟨n, 2, none⟩ (.bool true)).drew :=
    (((((Chg.refl _ w).setCell (fun _ => .inl rfl) _).setCell (fun _ => .inr rfl) _).setCell (fun _ => .inr rfl) _).setCell (fun _ => .inl rfl) _).drew
  obtain ⟨h1, h2, h3, h4, h5⟩ := K.out
  refine ⟨rfl, ⟨?_, h5.chg chg ?_, ⟨?_, h4.chg chg ?_, h2.chg chg ?_⟩⟩, chg⟩
  · exact (((h3.other hne' _).setR (some ⟨n, 0, none⟩)).setC c).other hne' _
  · rintro b hb (rfl | rfl)
    · exact m1.2.1 hb
    · exact q1 hb
  · exact (((h1.setL B.at).other hne _).other hne _).setC true
  · rintro b hb (rfl | rfl)
    · exact m1.2.2 hb
    · exact q2 hb
  · rintro b hb (rfl | rfl)
    · exact m2 hb
    · exact m5 _ (.inl rfl) hb
theorem turned (w : World) (s : Bool) (n u : Nat) (c d : Bool) (A B C : Tr) (v i v' i' : Int) (h : In w (mk s n c A v i (mk s u d B v' i' C))) (hn : (mk s n c A v i (mk s u d B v' i' C)).bl.Nodup) :
    Calls Tryz.prog 190 #[.pointer (some ⟨n, 0, none⟩), .int .i64 (num s)] w (Wr (mk s u c (mk s n true A v i B) v' i' C) (fun k => k = n ∨ k = u) w) := by
  cases s
  · exact turn_left w n u c d A B C v i v' i' h hn
  · exact turn_right w n u c d A B C v i v' i' h hn

/-! ### part -/
theorem at_mk (s : Bool) (b : Nat) (c : Bool) (x : Tr) (v i : Int) (y : Tr) : (mk s b c x v i y).at = some ⟨b, 0, none⟩ := by cases s <;> rfl
theorem mk_not (s : Bool) (b : Nat) (c : Bool) (x : Tr) (v i : Int) (y : Tr) : mk s b c x v i y = mk (!s) b c y v i x := by cases s <;> rfl
theorem in_mk {w : World} {s : Bool} {b : Nat} {c : Bool} {x : Tr} {v i : Int} {y : Tr} : In w (mk s b c x v i y) ↔ Nd w b c (if s then y.at else x.at) v i (if s then x.at else y.at) ∧ In w x ∧ In w y := by
  cases s
  · exact Iff.rfl
  · exact ⟨fun h => ⟨h.1, h.2.2, h.2.1⟩, fun h => ⟨h.1, h.2.2, h.2.1⟩⟩
theorem bl_mk {s : Bool} {b : Nat} {c : Bool} {x : Tr} {v i : Int} {y : Tr} {k : Nat} : k ∈ (mk s b c x v i y).bl ↔ k = b ∨ k ∈ x.bl ∨ k ∈ y.bl := by
  cases s
  · simp [mk, Tr.bl]
  · simp only [mk, Tr.bl, if_true, List.mem_cons, List.mem_append]; constructor <;> rintro (h | h | h) <;> simp [h]
theorem nodup_mk {s : Bool} {b : Nat} {c : Bool} {x : Tr} {v i : Int} {y : Tr} : (mk s b c x v i y).bl.Nodup ↔ b ∉ x.bl ∧ b ∉ y.bl ∧ x.bl.Nodup ∧ y.bl.Nodup ∧ (∀ k ∈ x.bl, k ∉ y.bl) := by
  cases s
  · simp only [mk, Tr.bl, List.nodup_cons, List.mem_append, not_or, List.nodup_append, Bool.false_eq_true, if_false]
    exact ⟨fun h => ⟨h.1.1, h.1.2, h.2.1, h.2.2.1, fun k h1 h2 => h.2.2.2 k h1 k h2 rfl⟩, fun h => ⟨⟨h.1, h.2.1⟩, h.2.2.1, h.2.2.2.1, fun k h1 j h2 e => h.2.2.2.2 k h1 (e ▸ h2)⟩⟩
  · simp only [mk, Tr.bl, List.nodup_cons, List.mem_append, not_or, List.nodup_append, if_true]
    exact ⟨fun h => ⟨h.1.2, h.1.1, h.2.2.1, h.2.1, fun k h1 h2 => h.2.2.2 k h2 k h1 rfl⟩, fun h => ⟨⟨h.2.1, h.1⟩, h.2.2.2.1, h.2.2.1, fun k h1 j h2 e => h.2.2.2.2 j h2 (e ▸ h1)⟩⟩
theorem chg_mk {w w' : World} {s : Bool} {b : Nat} {c : Bool} {x : Tr} {v i : Int} {y : Tr} {B : Nat → Prop} (g : Chg B w w') (hx : In w x) (hy : In w y) (hb : ∀ k, k ∈ x.bl ∨ k ∈ y.bl → ¬ B k)
    (h : Nd w' b c (if s then y.at else x.at) v i (if s then x.at else y.at)) : In w' (mk s b c x v i y) :=
  in_mk.2 ⟨h, hx.chg g (fun k hk => hb k (.inl hk)), hy.chg g (fun k hk => hb k (.inr hk))⟩
end Go.Proofs.YtnnjbonejbmgdaaGreat.Tree

/- What part of package rbtree does. Conditions: the nodes lie apart. -/
namespace Go.Proofs.YtnnjbonejbmgdaaGreat.Tree
open Go.ChangeShapes Go.WideShapes Go.ChangeAt Go.RowKit
set_option linter.unusedVariables false
set_option linter.unusedSimpArgs false
set_option maxRecDepth 100000

/-- Low is not red: nothing is to be mended. -/
theorem parted_black (w : World) (s : Bool) (n : Nat) (c : Bool) (x : Tr) (v i : Int) (y : Tr) (h : In w (mk s n c x v i y)) (hr : x.red = false) :
    Calls Tryz.prog 186 #[.pointer (some ⟨n, 0, none⟩), .int .i64 (num s)] w (Wr (part s (mk s n c x v i y)) (fun k => k ∈ (mk s n c x v i y).bl) w) := by
  have e : part s (mk s n c x v i y) = mk s n c x v i y := by simp [part, inner, outer, kid_mk, hr]
  rw [e]
  have H := Lib.hid h
  obtain ⟨h1, h2, h3⟩ := in_mk.1 h
  obtain ⟨a0, a1, a2, a3, a4, af⟩ := h1.cells
  have R := Lib.hid (isRed w h2)
  rw [hr] at R
  clear h h1 h2 h3 e
  cases s
  all_goals
    simp only [num, if_true, if_false, Bool.false_eq_true] at a3 a4 ⊢
    go_enter Tryz.func186, Tryz.ntmps186
    go_wp2_with (go_at_call 189; refine (R.out).mono ?_; rintro e w1 ⟨rfl, rfl⟩)
    go_ret
    exact ⟨by rw [at_mk]; rfl, H.out, Chg.refl _ _⟩

theorem part_red (s : Bool) (n : Nat) (c : Bool) (L : Nat) (o : Tr) (v1 i1 : Int) (ii : Tr) (v i : Int) (y : Tr) :
    part s (mk s n c (mk s L true o v1 i1 ii) v i y) = if ii.red = false ∧ o.red = false then mk s n c (mk s L true o v1 i1 ii) v i y else if y.red then mk s n true (mk s L false o v1 i1 ii) v i (y.ink false) else
      turn (!s) (if ii.red then mk s n c (turn s (mk s L true o v1 i1 ii)) v i y else mk s n c (mk s L true o v1 i1 ii) v i y) := by
  have ei : inner s (mk s n c (mk s L true o v1 i1 ii) v i y) = ii.red := by simp [inner, kid_mk, kid_mk', red_mk]
  have eo : outer s (mk s n c (mk s L true o v1 i1 ii) v i y) = o.red := by simp [outer, kid_mk, kid_mk', red_mk]
  unfold part
  rw [ei, eo, kid_mk, kid_mk', hang_mk, hang_mk, hang_mk']
  cases s <;> rfl
theorem parted_same (w : World) (s : Bool) (n : Nat) (c : Bool) (L : Nat) (o : Tr) (v1 i1 : Int) (ii : Tr) (v i : Int) (y : Tr) (h : In w (mk s n c (mk s L true o v1 i1 ii) v i y)) (hi : ii.red = false) (ho : o.red = false) :
    Calls Tryz.prog 186 #[.pointer (some ⟨n, 0, none⟩), .int .i64 (num s)] w (Wr (mk s n c (mk s L true o v1 i1 ii) v i y) (fun k => k ∈ (mk s n c (mk s L true o v1 i1 ii) v i y).bl) w) := by
  have H := Lib.hid h
  obtain ⟨h1, h2, h3⟩ := in_mk.1 h
  obtain ⟨g1, g2, g3⟩ := in_mk.1 h2
  obtain ⟨a0, a1, a2, a3, a4, af⟩ := h1.cells
  obtain ⟨b0, b1, b2, b3, b4, bf⟩ := g1.cells
  have RL := Lib.hid (isRed_node w g1)
  have RI := Lib.hid (isRed w g3)
  have RO := Lib.hid (isRed w g2)
  have RY := Lib.hid (isRed w h3)
  rw [at_mk] at a3 a4
  obtain ⟨ai, eai⟩ : ∃ a, ii.at = a := ⟨_, rfl⟩
  obtain ⟨ao, eao⟩ : ∃ a, o.at = a := ⟨_, rfl⟩
  obtain ⟨ay, eay⟩ : ∃ a, y.at = a := ⟨_, rfl⟩
  rw [eai] at RI b3 b4
  rw [eao] at RO b3 b4
  rw [eay] at RY a3 a4
  rw [hi] at RI
  rw [ho] at RO
  clear h h1 h2 h3 g1 g2 g3 hi ho eai eao eay
  cases s
  all_goals
    simp only [num, if_true, if_false, Bool.false_eq_true] at a3 a4 b3 b4 ⊢
    go_enter Tryz.func186, Tryz.ntmps186
    go_wp2_with (first
      | (go_at_call_of 189 L; refine (RL.out).mono ?_; rintro e w1 ⟨rfl, rfl⟩)
      | (go_at_call_of 189 ai; refine (RI.out).mono ?_; rintro e w1 ⟨rfl, rfl⟩)
      | (go_at_call_of 189 ao; refine (RO.out).mono ?_; rintro e w1 ⟨rfl, rfl⟩)
      | (go_at_call_of 189 ay; refine (RY.out).mono ?_; rintro e w1 ⟨rfl, rfl⟩))
    go_ret
    exact ⟨by rw [at_mk]; rfl, H.out, Chg.refl _ _⟩
/-- Three nodes get other colours. -/
theorem inked {w : World} {s : Bool} {n : Nat} {c : Bool} {L : Nat} {o : Tr} {v1 i1 : Int} {ii : Tr} {v i : Int} {yb : Nat} {yl : Tr} {yv yi : Int} {yr : Tr} (h : In w (mk s n c (mk s L true o v1 i1 ii) v i (.node yb true yl yv yi yr)))
    (hn : (mk s n c (mk s L true o v1 i1 ii) v i (.node yb true yl yv yi yr)).bl.Nodup) :
    In (((w.setCell ⟨n, 2, none⟩ (.bool true)).setCell ⟨L, 2, none⟩ (.bool false)).setCell ⟨yb, 2, none⟩ (.bool false)) (mk s n true (mk s L false o v1 i1 ii) v i (.node yb false yl yv yi yr)) ∧
    Chg (fun k => k ∈ (mk s n c (mk s L true o v1 i1 ii) v i (.node yb true yl yv yi yr)).bl) w (((w.setCell ⟨n, 2, none⟩ (.bool true)).setCell ⟨L, 2, none⟩ (.bool false)).setCell ⟨yb, 2, none⟩ (.bool false)) := by
  obtain ⟨h1, h2, h3⟩ := in_mk.1 h
  obtain ⟨g1, g2, g3⟩ := in_mk.1 h2
  obtain ⟨n1, n2, n3, n4, n5⟩ := nodup_mk.1 hn
  obtain ⟨m1, m2, m3, m4, m5⟩ := nodup_mk.1 n3
  have q := nodup_node n4
  have hnL : n ≠ L := fun e => n1 (bl_mk.2 (.inl e))
  have hny : n ≠ yb := fun e => n2 (by simp [Tr.bl, e])
  have hLy : L ≠ yb := fun e => n5 L (bl_mk.2 (.inl rfl)) (by simp [Tr.bl, e])
  have chg : Chg (fun k => k = n ∨ k = L ∨ k = yb) w (((w.setCell ⟨n, 2, none⟩ (.bool true)).setCell ⟨L, 2, none⟩ (.bool false)).setCell ⟨yb, 2, none⟩ (.bool false)) :=
    (((Chg.refl _ w).setCell (fun _ => .inl rfl) _).setCell (fun _ => .inr (.inl rfl)) _).setCell (fun _ => .inr (.inr rfl)) _
  rw [at_mk] at h1
  refine ⟨in_mk.2 ⟨?_, in_mk.2 ⟨?_, g2.chg chg ?_, g3.chg chg ?_⟩, ⟨?_, h3.2.1.chg chg ?_, h3.2.2.chg chg ?_⟩⟩, chg.mono ?_⟩
  · rw [at_mk]; exact ((h1.setC true).other hnL _).other hny _
  · exact ((g1.other hnL.symm _).setC false).other hLy _
  · rintro k hk (rfl | rfl | rfl)
    · exact n1 (bl_mk.2 (.inr (.inl hk)))
    · exact m1 hk
    · exact n5 _ (bl_mk.2 (.inr (.inl hk))) (by simp [Tr.bl])
  · rintro k hk (rfl | rfl | rfl)
    · exact n1 (bl_mk.2 (.inr (.inr hk)))
    · exact m2 hk
    · exact n5 _ (bl_mk.2 (.inr (.inr hk))) (by simp [Tr.bl])
  · exact ((h3.1.other hny.symm _).other hLy.symm _).setC false
  · rintro k hk (rfl | rfl | rfl)
    · exact n2 (by simp [Tr.bl, hk])
    · exact n5 _ (bl_mk.2 (.inl rfl)) (by simp [Tr.bl, hk])
    · exact q.1 hk
  · rintro k hk (rfl | rfl | rfl)
    · exact n2 (by simp [Tr.bl, hk])
    · exact n5 _ (bl_mk.2 (.inl rfl)) (by simp [Tr.bl, hk])
    · exact q.2.1 hk
  · rintro k _ (rfl | rfl | rfl)
    · exact bl_mk.2 (.inl rfl)
    · exact bl_mk.2 (.inr (.inl (bl_mk.2 (.inl rfl))))
    · exact bl_mk.2 (.inr (.inr (by simp [Tr.bl])))
theorem parted_ink (w : World) (s : Bool) (n : Nat) (c : Bool) (L : Nat) (o : Tr) (v1 i1 : Int) (ii : Tr) (v i : Int) (y : Tr) (h : In w (mk s n c (mk s L true o v1 i1 ii) v i y)) (hn : (mk s n c (mk s L true o v1 i1 ii) v i y).bl.Nodup) (hio : ¬ (ii.red = false ∧ o.red = false)) (hy : y.red = true) :
    Calls Tryz.prog 186 #[.pointer (some ⟨n, 0, none⟩), .int .i64 (num s)] w (Wr (mk s n true (mk s L false o v1 i1 ii) v i (y.ink false)) (fun k => k ∈ (mk s n c (mk s L true o v1 i1 ii) v i y).bl) w) := by
  cases y with
  | nil => simp [Tr.red] at hy
  | node yb yc yl yv yi yr =>
  simp only [Tr.red] at hy
  subst hy
  obtain ⟨k1, k2⟩ := inked h hn
  have K : Hid (_ ∧ _) := ⟨k1, k2⟩
  clear k1 k2
  have n2 := (nodup_mk.1 hn).2.1
  have n5 := (nodup_mk.1 hn).2.2.2.2
  have n1 := (nodup_mk.1 hn).1
  have hnL : ¬ n = L := fun e => n1 (bl_mk.2 (.inl e))
  have hLn : ¬ L = n := fun e => hnL e.symm
  have hny : ¬ n = yb := fun e => n2 (by simp [Tr.bl, e])
  have hyn : ¬ yb = n := fun e => hny e.symm
  have hLy : ¬ L = yb := fun e => n5 L (bl_mk.2 (.inl rfl)) (by simp [Tr.bl, e])
  have hyL : ¬ yb = L := fun e => hLy e.symm
  have H := Lib.hid h
  obtain ⟨h1, h2, h3⟩ := in_mk.1 h
  obtain ⟨g1, g2, g3⟩ := in_mk.1 h2
  obtain ⟨a0, a1, a2, a3, a4, af⟩ := h1.cells
  obtain ⟨b0, b1, b2, b3, b4, bf⟩ := g1.cells
  have RL := Lib.hid (isRed_node w g1)
  have RI := Lib.hid (isRed w g3)
  have RO := Lib.hid (isRed w g2)
  have RY := Lib.hid (isRed w h3)
  rw [at_mk] at a3 a4
  obtain ⟨ai, eai⟩ : ∃ a, ii.at = a := ⟨_, rfl⟩
  obtain ⟨ao, eao⟩ : ∃ a, o.at = a := ⟨_, rfl⟩
  obtain ⟨ay, eay⟩ : ∃ a, (Tr.node yb true yl yv yi yr).at = a := ⟨_, rfl⟩
  rw [eai] at RI b3 b4
  rw [eao] at RO b3 b4
  rw [eay] at RY a3 a4
  subst eay
  rw [at_node] at RY a3 a4
  simp only [Tr.red] at RY
  obtain ⟨y0, y1, y2, y3, y4, yf⟩ := h3.1.cells
  have hio2 : ii.red = true ∨ ii.red = false ∧ o.red = true := by
    cases hii : ii.red
    · exact .inr ⟨rfl, by cases ho : o.red; exact absurd ⟨hii, ho⟩ hio; rfl⟩
    · exact .inl rfl
  clear h h1 h2 h3 g1 g2 g3 eai eao n1 n2 n5 hn hio
  generalize ii.red = ir at *
  generalize o.red = ore at *
  rcases hio2 with rfl | ⟨rfl, rfl⟩
  all_goals
    cases s
    all_goals
      simp only [num, if_true, if_false, Bool.false_eq_true] at a3 a4 b3 b4 ⊢
      go_enter Tryz.func186, Tryz.ntmps186
      go_wp2_with (first
        | (go_at_call_of 189 L; refine (RL.out).mono ?_; rintro e w1 ⟨rfl, rfl⟩)
        | (go_at_call_of 189 ai; refine (RI.out).mono ?_; rintro e w1 ⟨rfl, rfl⟩)
        | (go_at_call_of 189 ao; refine (RO.out).mono ?_; rintro e w1 ⟨rfl, rfl⟩)
        | (go_at_call_of 189 yb; refine (RY.out).mono ?_; rintro e w1 ⟨rfl, rfl⟩))
      go_ret
      exact ⟨by rw [at_mk]; rfl, K.out.1, K.out.2⟩
theorem parted_outer (w : World) (s : Bool) (n : Nat) (c : Bool) (L : Nat) (o : Tr) (v1 i1 : Int) (ii : Tr) (v i : Int) (y : Tr) (h : In w (mk s n c (mk s L true o v1 i1 ii) v i y)) (hn : (mk s n c (mk s L true o v1 i1 ii) v i y).bl.Nodup) (hi : ii.red = false) (ho : o.red = true) (hy : y.red = false) :
    Calls Tryz.prog 186 #[.pointer (some ⟨n, 0, none⟩), .int .i64 (num s)] w (Wr (turn (!s) (mk s n c (mk s L true o v1 i1 ii) v i y)) (fun k => k ∈ (mk s n c (mk s L true o v1 i1 ii) v i y).bl) w) := by
  have e : mk s n c (mk s L true o v1 i1 ii) v i y = mk (!s) n c y v i (mk (!s) L true ii v1 i1 o) := by rw [← mk_not s n, ← mk_not s L]
  have TU := Lib.hid (fun w h hn => turned w (!s) n L c true y ii o v i v1 i1 h hn)
  rw [← turn_mk, ← e] at TU
  have N := Lib.hid hn
  have H := Lib.hid h
  obtain ⟨h1, h2, h3⟩ := in_mk.1 h
  obtain ⟨g1, g2, g3⟩ := in_mk.1 h2
  obtain ⟨a0, a1, a2, a3, a4, af⟩ := h1.cells
  obtain ⟨b0, b1, b2, b3, b4, bf⟩ := g1.cells
  have RL := Lib.hid (isRed_node w g1)
  have RI := Lib.hid (isRed w g3)
  have RO := Lib.hid (isRed w g2)
  have RY := Lib.hid (isRed w h3)
  rw [at_mk] at a3 a4
  obtain ⟨ai, eai⟩ : ∃ a, ii.at = a := ⟨_, rfl⟩
  obtain ⟨ao, eao⟩ : ∃ a, o.at = a := ⟨_, rfl⟩
  obtain ⟨ay, eay⟩ : ∃ a, y.at = a := ⟨_, rfl⟩
  rw [eai] at RI b3 b4
  rw [eao] at RO b3 b4
  rw [eay] at RY a3 a4
  rw [hi] at RI
  rw [ho] at RO
  rw [hy] at RY
  have Z : Hid (∀ w e w', Wr (turn (!s) (mk s n c (mk s L true o v1 i1 ii) v i y)) (fun k => k = n ∨ k = L) w e w' → Wr (turn (!s) (mk s n c (mk s L true o v1 i1 ii) v i y)) (fun k => k ∈ (mk s n c (mk s L true o v1 i1 ii) v i y).bl) w e w') := by
    rintro w e w' ⟨z1, z2, z3⟩
    exact ⟨z1, z2, z3.mono (by rintro k _ (rfl | rfl); exact bl_mk.2 (.inl rfl); exact bl_mk.2 (.inr (.inl (bl_mk.2 (.inl rfl)))))⟩
  clear h h1 h2 h3 g1 g2 g3 hi ho hy eai eao eay hn e
  generalize turn (!s) (mk s n c (mk s L true o v1 i1 ii) v i y) = R at *
  cases s
  all_goals
    simp only [num, if_true, if_false, Bool.false_eq_true, Bool.not_true, Bool.not_false] at a3 a4 b3 b4 TU ⊢
    go_enter Tryz.func186, Tryz.ntmps186
    go_wp2_with (first
      | (go_at_call_of 189 L; refine (RL.out).mono ?_; rintro e w1 ⟨rfl, rfl⟩)
      | (go_at_call_of 189 ai; refine (RI.out).mono ?_; rintro e w1 ⟨rfl, rfl⟩)
      | (go_at_call_of 189 ao; refine (RO.out).mono ?_; rintro e w1 ⟨rfl, rfl⟩)
      | (go_at_call_of 189 ay; refine (RY.out).mono ?_; rintro e w1 ⟨rfl, rfl⟩)
      | (go_at_call 190; refine (TU.out _ H.out N.out).mono ?_; rintro e w1 ⟨rfl, hw⟩; have W := Lib.hid hw; clear hw))
    go_ret
    exact Z.out _ _ _ ⟨rfl, W.out⟩
end Go.Proofs.YtnnjbonejbmgdaaGreat.Tree
