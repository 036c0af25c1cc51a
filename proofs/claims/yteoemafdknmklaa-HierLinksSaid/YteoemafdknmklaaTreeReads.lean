/- What the calls of package rbtree that only read answer. Conditions: none. -/
import Derived.Test.YteoemafdknmklaaTreeMem
import Derived.LoopTactic
import Derived.Deep.LoopGhost
import Derived.Deep.RegionWith
import Derived.WalkMore
import Derived.WalkSmall
namespace Go.Proofs.Yteoemafdknmklaa.Tree
open Go.ChangeShapes Go.WideShapes Go.ChangeAt Go.RowKit
set_option linter.unusedVariables false
set_option linter.unusedSimpArgs false
set_option maxRecDepth 100000

theorem onLeft (w : World) {b : Nat} {c : Bool} {l r : Option Addr} {v i : Int} (h : Nd w b c l v i r) : Calls Try.prog 79 #[.pointer (some ⟨b, 0, none⟩)] w (Still (.pointer l) w) := by
  obtain ⟨c0, c1, c2, c3, c4, fz⟩ := h.cells
  clear h
  go_enter Try.func79, Try.ntmps79
  go_wp2
  go_ret; exact ⟨rfl, rfl⟩
theorem onRight (w : World) {b : Nat} {c : Bool} {l r : Option Addr} {v i : Int} (h : Nd w b c l v i r) : Calls Try.prog 92 #[.pointer (some ⟨b, 0, none⟩)] w (Still (.pointer r) w) := by
  obtain ⟨c0, c1, c2, c3, c4, fz⟩ := h.cells
  clear h
  go_enter Try.func92, Try.ntmps92
  go_wp2
  go_ret; exact ⟨rfl, rfl⟩
theorem isRed_nil (w : World) : Calls Try.prog 95 #[.pointer none] w (Still (.bool false) w) := by
  go_enter Try.func95, Try.ntmps95
  go_wp2
  go_ret; exact ⟨rfl, rfl⟩
theorem isRed_node (w : World) {b : Nat} {c : Bool} {l r : Option Addr} {v i : Int} (h : Nd w b c l v i r) : Calls Try.prog 95 #[.pointer (some ⟨b, 0, none⟩)] w (Still (.bool c) w) := by
  obtain ⟨c0, c1, c2, c3, c4, fz⟩ := h.cells
  clear h
  go_enter Try.func95, Try.ntmps95
  go_wp2
  go_ret; exact ⟨rfl, rfl⟩
theorem isRed (w : World) {T : Tr} (h : In w T) : Calls Try.prog 95 #[.pointer T.at] w (Still (.bool T.red) w) := by
  cases T with
  | nil => exact isRed_nil w
  | node b c l v i r => exact isRed_node w h.1
theorem tell_nil (w : World) : Calls Try.prog 88 #[.pointer none] w (Is (.tuple #[.agg #[.int .i64 0, .int .i64 0], .bool false]) w) := by
  go_enter Try.func88, Try.ntmps88
  go_wp2
  refine bodyPost_ret (v := .tuple #[.agg #[.int .i64 0, .int .i64 0], .bool false]) (by simp [results, Try.results88, go_sem]) rfl ?_
  exact ⟨rfl, by go_grown⟩
theorem tell_node (w : World) {b : Nat} {c : Bool} {l r : Option Addr} {v i : Int} (h : Nd w b c l v i r) : Calls Try.prog 88 #[.pointer (some ⟨b, 0, none⟩)] w (Is (.tuple #[.agg #[.int .i64 v, .int .i64 i], .bool true]) w) := by
  obtain ⟨c0, c1, c2, c3, c4, fz⟩ := h.cells
  have hb := h.lt
  clear h
  go_enter Try.func88, Try.ntmps88
  go_wp2
  refine bodyPost_ret (v := .tuple #[.agg #[.int .i64 v, .int .i64 i], .bool true]) (by simp [results, Try.results88, go_sem]) rfl ?_
  exact ⟨rfl, by go_grown⟩

def cmp1 (a b : Int) : Int := if a < b then -1 else if b < a then 1 else 0
theorem cmp64 (a b : Int) (w : World) : Calls Try.prog 97 #[.int .i64 a, .int .i64 b] w (Still (.int .i64 (cmp1 a b)) w) := by
  unfold cmp1
  rcases Int.lt_trichotomy a b with h | h | h
  · rw [if_pos h]
    go_enter Try.func97, Try.ntmps97
    go_wp2
    go_ret; exact ⟨rfl, rfl⟩
  · subst h
    rw [if_neg (by omega), if_neg (by omega)]
    go_enter Try.func97, Try.ntmps97
    go_wp2
    go_ret; exact ⟨rfl, rfl⟩
  · rw [if_neg (by omega), if_pos h]
    have h1 : ¬ a < b := by omega
    go_enter Try.func97, Try.ntmps97
    go_wp2
    go_ret; exact ⟨rfl, rfl⟩
theorem cmpInt (a b : Int) (w : World) : Calls Try.prog 98 #[.int .i64 a, .int .i64 b] w (Still (.int .i64 (cmp1 a b)) w) := by
  unfold cmp1
  rcases Int.lt_trichotomy a b with h | h | h
  · rw [if_pos h]
    go_enter Try.func98, Try.ntmps98
    go_wp2
    go_ret; exact ⟨rfl, rfl⟩
  · subst h
    rw [if_neg (by omega), if_neg (by omega)]
    go_enter Try.func98, Try.ntmps98
    go_wp2
    go_ret; exact ⟨rfl, rfl⟩
  · rw [if_neg (by omega), if_pos h]
    have h1 : ¬ a < b := by omega
    go_enter Try.func98, Try.ntmps98
    go_wp2
    go_ret; exact ⟨rfl, rfl⟩
def cmp2 (a b : Ky) : Int := if a.1 = b.1 then cmp1 a.2 b.2 else cmp1 a.1 b.1
theorem compare (a b : Ky) (w : World) : Calls Try.prog 94 #[.agg #[.int .i64 a.1, .int .i64 a.2], .agg #[.int .i64 b.1, .int .i64 b.2]] w (Is (.int .i64 (cmp2 a b)) w) := by
  have m1 := Lib.hid (fun w => cmp64 a.1 b.1 w)
  have m2 := Lib.hid (fun w => cmpInt a.2 b.2 w)
  unfold cmp2
  generalize cmp1 a.1 b.1 = x at *
  generalize cmp1 a.2 b.2 = y at *
  obtain ⟨a1, a2⟩ := a
  obtain ⟨b1, b2⟩ := b
  simp only at *
  by_cases h : a1 = b1
  · rw [if_pos h]
    subst h
    go_enter Try.func94, Try.ntmps94
    go_wp2_with (go_at_call 98; refine (m2.out _).mono ?_; rintro e w1 ⟨rfl, rfl⟩)
    go_ret; exact ⟨rfl, by go_grown⟩
  · rw [if_neg h]
    have h1 : (a1 == b1) = false := by simpa using h
    go_enter Try.func94, Try.ntmps94
    go_wp2_with (go_at_call 97; refine (m1.out _).mono ?_; rintro e w1 ⟨rfl, rfl⟩)
    go_ret; exact ⟨rfl, by go_grown⟩
theorem cmp2_pos (a b : Ky) : 0 < cmp2 a b ↔ lt b a := by
  unfold cmp2 cmp1 lt
  constructor
  · intro h; split at h <;> split at h <;> (try split at h) <;> omega
  · intro h; split <;> split <;> (try split) <;> omega
theorem cmp2_neg (a b : Ky) : cmp2 a b < 0 ↔ lt a b := by
  unfold cmp2 cmp1 lt
  constructor
  · intro h; split at h <;> split at h <;> (try split at h) <;> omega
  · intro h; split <;> split <;> (try split) <;> omega
def num (s : Bool) : Int := if s then 1 else 0
theorem sideOf (a b : Ky) (w : World) : Calls Try.prog 89 #[.agg #[.int .i64 a.1, .int .i64 a.2], .agg #[.int .i64 b.1, .int .i64 b.2]] w (Is (.int .i64 (num (side a b))) w) := by
  have m1 := Lib.hid (fun w => compare a b w)
  have hg := Below.refl w.heap.size w
  by_cases h : lt b a
  · rw [show num (side a b) = 1 by simp [num, side, h]]
    have h1 := (cmp2_pos a b).2 h
    generalize cmp2 a b = x at *
    go_enter Try.func89, Try.ntmps89
    go_wp2_with (go_at_call 94; refine (m1.out _).mono ?_; rintro e w1 ⟨rfl, hg1⟩; replace hg := fresh_trans ((hg.alloc (Nat.le_refl _) _).alloc (by simp) _) hg1; clear hg1)
    go_ret; exact ⟨rfl, hg⟩
  · rw [show num (side a b) = 0 by simp [num, side, h]]
    have h1 : ¬ 0 < cmp2 a b := fun h2 => h ((cmp2_pos a b).1 h2)
    generalize cmp2 a b = x at *
    go_enter Try.func89, Try.ntmps89
    go_wp2_with (go_at_call 94; refine (m1.out _).mono ?_; rintro e w1 ⟨rfl, hg1⟩; replace hg := fresh_trans ((hg.alloc (Nat.le_refl _) _).alloc (by simp) _) hg1; clear hg1)
    go_ret; exact ⟨rfl, hg⟩

def Tr.size (T : Tr) : Nat := T.bl.length
def Tr.endT : Tr → Tr
  | .nil => .nil
  | .node b c l v i .nil => .node b c l v i .nil
  | .node _ _ _ _ _ (.node b c l v i r) => (Tr.node b c l v i r).endT
def Tr.headT : Tr → Tr
  | .nil => .nil
  | .node b c .nil v i r => .node b c .nil v i r
  | .node _ _ (.node b c l v i r) _ _ _ => (Tr.node b c l v i r).headT
def LastI (w : World) (T : Tr) (k : Nat) (n nx : Value) (wr : World) : Prop :=
  ∃ b c l v i r, n = .pointer (some ⟨b, 0, none⟩) ∧ nx = .pointer r.at ∧ In w (.node b c l v i r) ∧ (Tr.node b c l v i r).endT = T.endT ∧ r.size = k ∧ wr = w
def HeadI (w : World) (T : Tr) (k : Nat) (n nx : Value) (wr : World) : Prop :=
  ∃ b c l v i r, n = .pointer (some ⟨b, 0, none⟩) ∧ nx = .pointer l.at ∧ In w (.node b c l v i r) ∧ (Tr.node b c l v i r).headT = T.headT ∧ l.size = k ∧ wr = w

theorem last_nil (w : World) (f : Nat) : Calls Try.prog 87 #[.pointer none, .func (.func f) #[] #[]] w (Still (.pointer none) w) := by
  go_enter Try.func87, Try.ntmps87
  go_wp2
  go_ret; exact ⟨rfl, rfl⟩
theorem last_right (w : World) (T : Tr) (h : In w T) : Calls Try.prog 87 #[.pointer T.at, .func (.func 92) #[] #[]] w (Still (.pointer T.endT.at) w) := by
  cases T with
  | nil => exact last_nil w _
  | node b c l v i r =>
    have hT : LastI w (.node b c l v i r) r.size (.pointer (some ⟨b, 0, none⟩)) (.pointer r.at) w := ⟨b, c, l, v, i, r, rfl, rfl, h, rfl, rfl, rfl⟩
    have A := Lib.hid (onRight w h.1)
    show Calls Try.prog 87 #[.pointer (some ⟨b, 0, none⟩), .func (.func 92) #[] #[]] w _
    clear h
    generalize r.size = n0 at *
    generalize r.at = ra at *
    generalize Tr.node b c l v i r = T0 at *
    go_enter Try.func87, Try.ntmps87
    go_wp2_with (go_at_call 92; refine (A.out).mono ?_; rintro e w1 ⟨rfl, rfl⟩)
    go_loopg [0, 5] n0 (fun k n nx wr => LastI w T0 k n nx wr)
    case atStart => exact hT
    case round =>
      clear A hT
      obtain ⟨b', c', l', v', i', r', rfl, rfl, hin, hE, rfl, rfl⟩ := hrel
      cases r' with
      | nil =>
        simp only [Tr.at]
        clear hin
        go_wp2_with fail
        go_ret
        exact ⟨by rw [← hE]; rfl, rfl⟩
      | node b2 c2 l2 v2 i2 r2 =>
        have A := Lib.hid (onRight wr hin.2.2.1)
        have H := Lib.hid hin
        have HE := Lib.hid hE
        clear hin hE
        simp only [Tr.at]
        go_wp2_with (go_at_call 92; refine (A.out).mono ?_; rintro e w1 ⟨rfl, rfl⟩)
        go_roundg r2.size
        case measure => simp [Tr.size, Tr.bl]; omega
        case rel => exact ⟨b2, c2, l2, v2, i2, r2, rfl, rfl, H.out.2.2, by rw [← HE.out]; rfl, rfl, rfl⟩
theorem last_left (w : World) (T : Tr) (h : In w T) : Calls Try.prog 87 #[.pointer T.at, .func (.func 79) #[] #[]] w (Still (.pointer T.headT.at) w) := by
  cases T with
  | nil => exact last_nil w _
  | node b c l v i r =>
    have hT : HeadI w (.node b c l v i r) l.size (.pointer (some ⟨b, 0, none⟩)) (.pointer l.at) w := ⟨b, c, l, v, i, r, rfl, rfl, h, rfl, rfl, rfl⟩
    have A := Lib.hid (onLeft w h.1)
    show Calls Try.prog 87 #[.pointer (some ⟨b, 0, none⟩), .func (.func 79) #[] #[]] w _
    clear h
    generalize l.size = n0 at *
    generalize l.at = ra at *
    generalize Tr.node b c l v i r = T0 at *
    go_enter Try.func87, Try.ntmps87
    go_wp2_with (go_at_call 79; refine (A.out).mono ?_; rintro e w1 ⟨rfl, rfl⟩)
    go_loopg [0, 5] n0 (fun k n nx wr => HeadI w T0 k n nx wr)
    case atStart => exact hT
    case round =>
      clear A hT
      obtain ⟨b', c', l', v', i', r', rfl, rfl, hin, hE, rfl, rfl⟩ := hrel
      cases l' with
      | nil =>
        simp only [Tr.at]
        clear hin
        go_wp2_with fail
        go_ret
        exact ⟨by rw [← hE]; rfl, rfl⟩
      | node b2 c2 l2 v2 i2 r2 =>
        have A := Lib.hid (onLeft wr hin.2.1.1)
        have H := Lib.hid hin
        have HE := Lib.hid hE
        clear hin hE
        simp only [Tr.at]
        go_wp2_with (go_at_call 79; refine (A.out).mono ?_; rintro e w1 ⟨rfl, rfl⟩)
        go_roundg l2.size
        case measure => simp [Tr.size, Tr.bl]; omega
        case rel => exact ⟨b2, c2, l2, v2, i2, r2, rfl, rfl, H.out.2.1, by rw [← HE.out]; rfl, rfl, rfl⟩
end Go.Proofs.Yteoemafdknmklaa.Tree
