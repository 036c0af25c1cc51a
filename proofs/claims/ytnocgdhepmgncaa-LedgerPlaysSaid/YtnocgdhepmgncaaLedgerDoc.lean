/- The document's list of credits in memory: Total, Task, Group. Conditions: as each fact states them. -/
import Derived.Test.YtnocgdhepmgncaaLedgerDocP
import Derived.Test.YtnocgdhepmgncaaLedgerLists
namespace Go.Proofs.Ytnocgdhepmgncaa.Ledger
open Go.ChangeShapes Go.WideShapes Go.ChangeAt Go.RowKit Go.Sort Mem
set_option linter.unusedVariables false
set_option linter.unusedSimpArgs false
set_option maxRecDepth 100000

structure Doc (lo hi : Nat) (v : Option Addr) (c : Nat) (l : List De) (w : World) : Prop where
  lst : Lst v l w
  none_ : v = none → l = [] ∧ c = 0
  base : ∀ ad, v = some ad → ∃ g, ad = ⟨g, 0, none⟩ ∧ hi ≤ g
  des : ∀ r ∈ l, r.Is lo w
  few : l.length ≤ 60
  size : lo ≤ w.heap.size
theorem Doc.fresh {lo hi : Nat} {v : Option Addr} {c : Nat} {l : List De} {w w' : World} (h : Doc lo hi v c l w) (hg : Below w.heap.size w w') : Doc lo hi v c l w' :=
  { h with lst := h.lst.fresh hg, des := fun r hr => (h.des r hr).fresh h.size (hg.mono h.size), size := Nat.le_trans h.size hg.size }
theorem Doc.keep {lo hi : Nat} {v : Option Addr} {c : Nat} {l : List De} {w w' : World} (h : Doc lo hi v c l w) (hg : But lo hi w w') : Doc lo hi v c l w' :=
  { h with lst := h.lst.on hg.size (fun k off e hk => hg.block k hk (by obtain ⟨g, e2, h2⟩ := h.base _ e; cases e2; exact .inr h2)), des := fun r hr => (h.des r hr).fresh h.size (hg.below (Nat.le_refl _) h.size), size := Nat.le_trans h.size hg.size }
theorem Doc.nil (lo hi : Nat) (w : World) (h : lo ≤ w.heap.size) : Doc lo hi none 0 [] w := ⟨Lst.nil _ _, fun _ => ⟨rfl, rfl⟩, fun ad e => (by cases e), fun r hr => (by cases hr), by simp, h⟩
abbrev docV (v : Option Addr) (n c : Nat) : Value := .agg #[.slice v n c]
abbrev docO (v : Option Addr) (n c : Nat) : Obj := .cells #[.slice v n c] 29 (0, 0)
theorem one {w : World} {b : Nat} {a0 : Value} {t : TypeId} (hb : w.heap[b]? = some (.cells #[a0] t (0, 0))) : w.cell? ⟨b, 0, none⟩ = some a0 ∧ (∀ j, w.frozen? ⟨b, j, none⟩ = false) := by
  refine ⟨?_, fun j => frozen_of_row w b j _ _ hb⟩
  rw [cell_of_row w b _ _ _ _ hb]; rfl
/-- The row in place k, wherever the list lies. -/
theorem Lst.row {v : Option Addr} {l : List De} {w : World} (h : Lst v l w) {k : Nat} (hk : k < l.length) : ∃ k1 o1 r, v = some ⟨k1, o1, none⟩ ∧ l[k]? = some r ∧ r ∈ l ∧ ∀ w', Lst v l w' →
    w'.cell? ⟨k1, o1 + k * 4, none⟩ = some (.slice r.a r.n r.c) ∧ w'.cell? ⟨k1, o1 + k * 4 + 1, none⟩ = some (.int .i64 r.t) ∧ w'.cell? ⟨k1, o1 + k * 4 + 2, none⟩ = some (.int .i64 r.ns) ∧ w'.cell? ⟨k1, o1 + k * 4 + 3, none⟩ = some (.bool r.gone) := by
  have hd : l[k]? = some l[k] := List.getElem?_eq_getElem hk
  generalize l[k] = d at hd
  obtain ⟨k1, o1, e, _⟩ := h k d hd
  refine ⟨k1, o1, d, e, hd, List.mem_of_getElem? hd, fun w' h' => ?_⟩
  obtain ⟨k2, o2, e2, _, c⟩ := h' k d hd
  rw [e] at e2
  cases e2
  exact c
/-- In the round for the row in place k. -/
def SmI (P : De → Bool) (l : List De) (W : World) (left : Nat) (t5 t6 : Value) (wr : World) : Prop := ∃ k : Nat, k ≤ l.length ∧ left = l.length - k ∧ t6 = .int .i64 (k : Int) ∧ t5 = .int .i64 (sumIf P (l.take k)) ∧ Below W.heap.size W wr
set_option maxHeartbeats 2000000 in
theorem refTotal (lo hi : Nat) (v : Option Addr) (c : Nat) (l : List De) (w : World) (h : Doc lo hi v c l w) (hp : Pos l) (ht : dTot l ≤ 9223372036854775807) :
    Calls Try.prog 18 #[docV v l.length c] w (Is (.int .i64 (dTot l)) w) := by
  have hf := h.few
  have a0 := alloc1 w (docO v l.length c)
  have n0 := heap_alloc_new w (docO v l.length c)
  have HB := Lib.hid (fun w' (hg : Below (w.alloc (docO v l.length c)).heap.size (w.alloc (docO v l.length c)) w') => (show (_ ∧ _) ∧ Doc lo hi v c l w' ∧ Is (.int .i64 (dTot l)) w (.returned (.int .i64 (dTot l))) w' from ⟨one (box_fresh n0 hg), (h.fresh a0).fresh hg, rfl, fresh_trans a0 hg⟩))
  clear h n0 a0
  have hT := Lib.hid ht
  unfold docV docO at *
  go_enter Try.func18, Try.ntmps18
  go_upto_region 3 with fail
  generalize w.alloc _ = W at *
  generalize w.heap.size = z at *
  go_loopg [3, 4] l.length (fun left t5 t6 wr => SmI (fun _ => true) l W left t5 t6 wr)
  case atStart => exact ⟨0, by omega, by omega, rfl, by simp [sumIf], Below.refl _ _⟩
  case round =>
    obtain ⟨k, hk, rfl, rfl, rfl, hb⟩ := hrel
    obtain ⟨⟨x0, xz⟩, hD, hI⟩ := HB.out wr hb
    by_cases hlt : k < l.length
    · have q1 : (k : Int) < l.length := by omega
      obtain ⟨k1, o1, r, rfl, hr, hm, CC⟩ := hD.lst.row hlt
      obtain ⟨y0, y1, y2, y3⟩ := CC _ hD.lst
      have e1 := sumIf_take (fun _ => true) hr
      have e2 := (sumIf_part (fun _ => true) hp (k + 1)).2
      have e3 := (sumIf_part (fun _ => true) hp k).1
      have e4 := hp r hm
      rw [e1] at e2
      have e5 := Int.le_trans e2 hT.out
      simp only [if_true] at e1 e5
      have NX := Lib.hid (show SmI (fun _ => true) l W (l.length - (k + 1)) (.int .i64 (sumIf (fun _ => true) (l.take k) + r.ns)) (.int .i64 ((k : Int) + 1)) wr from ⟨k + 1, by omega, rfl, by go_num, by rw [e1], hb⟩)
      clear e1 e2 HB CC hD hI hb hr hm ht hp hT
      generalize sumIf (fun _ => true) (l.take k) = A at *
      go_wp2_with fail
      go_roundg (l.length - (k + 1))
      case measure => omega
      case rel => exact NX.out
    · have q1 : ¬ (k : Int) < l.length := by omega
      have e1 : l.take k = l := List.take_of_length_le (by omega)
      rw [e1]
      have hI2 := Lib.hid hI
      clear HB hD hb hp hI hT ht
      rw [show sumIf (fun _ => true) l = dTot l from rfl]
      generalize dTot l = RES at *
      go_wp2_with fail
      go_ret
      exact hI2.out
set_option maxHeartbeats 2000000 in
theorem refTask (lo hi : Nat) (v : Option Addr) (c : Nat) (l : List De) (i : Int) (w : World) (h : Doc lo hi v c l w) (hp : Pos l) (ht : dTot l ≤ 9223372036854775807) :
    Calls Try.prog 13 #[docV v l.length c, .int .i64 i] w (Is (.int .i64 (dTask i l)) w) := by
  have hf := h.few
  have a0 := alloc1 w (docO v l.length c)
  have n0 := heap_alloc_new w (docO v l.length c)
  have HB := Lib.hid (fun w' (hg : Below (w.alloc (docO v l.length c)).heap.size (w.alloc (docO v l.length c)) w') => (show (_ ∧ _) ∧ Doc lo hi v c l w' ∧ Is (.int .i64 (dTask i l)) w (.returned (.int .i64 (dTask i l))) w' from ⟨one (box_fresh n0 hg), (h.fresh a0).fresh hg, rfl, fresh_trans a0 hg⟩))
  clear h n0 a0
  have hT := Lib.hid ht
  unfold docV docO at *
  go_enter Try.func13, Try.ntmps13
  go_upto_region 3 with fail
  generalize w.alloc _ = W at *
  generalize w.heap.size = z at *
  go_loopg [5, 6] l.length (fun left t5 t6 wr => SmI (fun r => decide (r.t = i) && !r.gone) l W left t5 t6 wr)
  case atStart => exact ⟨0, by omega, by omega, rfl, by simp [sumIf], Below.refl _ _⟩
  case round =>
    obtain ⟨k, hk, rfl, rfl, rfl, hb⟩ := hrel
    obtain ⟨⟨x0, xz⟩, hD, hI⟩ := HB.out wr hb
    by_cases hlt : k < l.length
    · have q1 : (k : Int) < l.length := by omega
      obtain ⟨k1, o1, r, rfl, hr, hm, CC⟩ := hD.lst.row hlt
      obtain ⟨y0, y1, y2, y3⟩ := CC _ hD.lst
      have e1 := sumIf_take (fun r => decide (r.t = i) && !r.gone) hr
      have e2 := (sumIf_part (fun r => decide (r.t = i) && !r.gone) hp (k + 1)).2
      have e3 := (sumIf_part (fun r => decide (r.t = i) && !r.gone) hp k).1
      have e4 := hp r hm
      rw [e1] at e2
      have e5 := Int.le_trans e2 hT.out
      by_cases hti : r.t = i
      · cases hgn : r.gone with
        | true =>
          have hP : (decide (r.t = i) && !r.gone) = false := by simp [hgn]
          rw [hP] at e1 e5
          rw [hgn] at y3
          have hti2 : (r.t == i) = true := by simpa using hti
          clear hP hti
          simp only [Bool.false_eq_true, if_false] at e1 e5
          have NX := Lib.hid (show SmI (fun r => decide (r.t = i) && !r.gone) l W (l.length - (k + 1)) (.int .i64 (sumIf (fun r => decide (r.t = i) && !r.gone) (l.take k))) (.int .i64 ((k : Int) + 1)) wr from ⟨k + 1, by omega, rfl, by go_num, by rw [e1, Int.add_zero], hb⟩)
          clear e1 e2 HB CC hD hI hb hr hm ht hp hT
          generalize sumIf (fun r => decide (r.t = i) && !r.gone) (l.take k) = A at *
          go_wp2_with fail
          go_roundg (l.length - (k + 1))
          case measure => omega
          case rel => exact NX.out
        | false =>
          have hP : (decide (r.t = i) && !r.gone) = true := by simp [hti, hgn]
          rw [hP] at e1 e5
          rw [hgn] at y3
          have hti2 : (r.t == i) = true := by simpa using hti
          clear hP hti
          simp only [if_true] at e1 e5
          have NX := Lib.hid (show SmI (fun r => decide (r.t = i) && !r.gone) l W (l.length - (k + 1)) (.int .i64 (sumIf (fun r => decide (r.t = i) && !r.gone) (l.take k) + r.ns)) (.int .i64 ((k : Int) + 1)) wr from ⟨k + 1, by omega, rfl, by go_num, by rw [e1], hb⟩)
          clear e1 e2 HB CC hD hI hb hr hm ht hp hT
          generalize sumIf (fun r => decide (r.t = i) && !r.gone) (l.take k) = A at *
          go_wp2_with fail
          go_roundg (l.length - (k + 1))
          case measure => omega
          case rel => exact NX.out
      · have hP : (decide (r.t = i) && !r.gone) = false := by simp [hti]
        rw [hP] at e1 e5
        have hti2 : (r.t == i) = false := by simpa using hti
        clear hP
        simp only [Bool.false_eq_true, if_false] at e1 e5
        have NX := Lib.hid (show SmI (fun r => decide (r.t = i) && !r.gone) l W (l.length - (k + 1)) (.int .i64 (sumIf (fun r => decide (r.t = i) && !r.gone) (l.take k))) (.int .i64 ((k : Int) + 1)) wr from ⟨k + 1, by omega, rfl, by go_num, by rw [e1, Int.add_zero], hb⟩)
        clear e1 e2 HB CC hD hI hb hr hm ht hp hT
        generalize sumIf (fun r => decide (r.t = i) && !r.gone) (l.take k) = A at *
        go_wp2_with fail
        go_roundg (l.length - (k + 1))
        case measure => omega
        case rel => exact NX.out
    · have q1 : ¬ (k : Int) < l.length := by omega
      have e1 : l.take k = l := List.take_of_length_le (by omega)
      rw [e1]
      have hI2 := Lib.hid hI
      clear HB hD hb hp hI hT ht
      rw [show sumIf (fun r => decide (r.t = i) && !r.gone) l = dTask i l from rfl]
      generalize dTask i l = RES at *
      go_wp2_with fail
      go_ret
      exact hI2.out
set_option maxHeartbeats 2000000 in
theorem refGroup (lo hi : Nat) (v : Option Addr) (c : Nat) (l : List De) (i : Int) (w : World) (h : Doc lo hi v c l w) (hp : Pos l) (ht : dTot l ≤ 9223372036854775807) :
    Calls Try.prog 21 #[docV v l.length c, .int .i64 i] w (Is (.int .i64 (dGroup i l)) w) := by
  have hf := h.few
  have a0 := alloc1 w (docO v l.length c)
  have n0 := heap_alloc_new w (docO v l.length c)
  have HB := Lib.hid (fun w' (hg : Below (w.alloc (docO v l.length c)).heap.size (w.alloc (docO v l.length c)) w') => (show (_ ∧ _) ∧ Doc lo hi v c l w' ∧ Is (.int .i64 (dGroup i l)) w (.returned (.int .i64 (dGroup i l))) w' from ⟨one (box_fresh n0 hg), (h.fresh a0).fresh hg, rfl, fresh_trans a0 hg⟩))
  clear h n0 a0
  have hT := Lib.hid ht
  unfold docV docO at *
  go_enter Try.func21, Try.ntmps21
  go_upto_region 3 with fail
  generalize w.alloc _ = W at *
  generalize w.heap.size = z at *
  go_loopg [5, 6] l.length (fun left t5 t6 wr => SmI (fun r => decide (i ∈ r.xs)) l W left t5 t6 wr)
  case atStart => exact ⟨0, by omega, by omega, rfl, by simp [sumIf], Below.refl _ _⟩
  case round =>
    obtain ⟨k, hk, rfl, rfl, rfl, hb⟩ := hrel
    obtain ⟨⟨x0, xz⟩, hD, hI⟩ := HB.out wr hb
    by_cases hlt : k < l.length
    · have q1 : (k : Int) < l.length := by omega
      obtain ⟨k1, o1, r, rfl, hr, hm, CC⟩ := hD.lst.row hlt
      obtain ⟨y0, y1, y2, y3⟩ := CC _ hD.lst
      have e1 := sumIf_take (fun r => decide (i ∈ r.xs)) hr
      have e2 := (sumIf_part (fun r => decide (i ∈ r.xs)) hp (k + 1)).2
      have e3 := (sumIf_part (fun r => decide (i ∈ r.xs)) hp k).1
      have e4 := hp r hm
      rw [e1] at e2
      have e5 := Int.le_trans e2 hT.out
      have HS := Lib.hid (has _ r.a r.n r.c r.xs i wr (hD.des r hm).path)
      cases hP : decide (i ∈ r.xs) with
      | true =>
        rw [hP] at e1 e5 HS
        simp only [if_true] at e1 e5
        have NX := Lib.hid (fun wr (hb : Below W.heap.size W wr) => show SmI (fun r => decide (i ∈ r.xs)) l W (l.length - (k + 1)) (.int .i64 (sumIf (fun r => decide (i ∈ r.xs)) (l.take k) + r.ns)) (.int .i64 ((k : Int) + 1)) wr from ⟨k + 1, by omega, rfl, by go_num, by rw [e1], hb⟩)
        have CX := Lib.hid (fun wr (hb : Below W.heap.size W wr) => (show _ ∧ _ from ⟨(HB.out wr hb).1, CC _ (HB.out wr hb).2.1.lst⟩))
        clear e1 e2 HB CC hD hI hr hm ht hp hT
        generalize sumIf (fun r => decide (i ∈ r.xs)) (l.take k) = A at *
        go_wp2_with (go_at_call 25; refine HS.out.mono ?_; rintro e w2 ⟨rfl, hg2⟩; replace hb := hb.trans (hg2.mono hb.size); clear x0 xz y0 y1 y2 y3; obtain ⟨⟨x0, xz⟩, y0, y1, y2, y3⟩ := CX.out _ hb)
        go_roundg (l.length - (k + 1))
        case measure => omega
        case rel => exact NX.out _ hb
      | false =>
        rw [hP] at e1 e5 HS
        simp only [Bool.false_eq_true, if_false] at e1 e5
        have NX := Lib.hid (fun wr (hb : Below W.heap.size W wr) => show SmI (fun r => decide (i ∈ r.xs)) l W (l.length - (k + 1)) (.int .i64 (sumIf (fun r => decide (i ∈ r.xs)) (l.take k))) (.int .i64 ((k : Int) + 1)) wr from ⟨k + 1, by omega, rfl, by go_num, by rw [e1, Int.add_zero], hb⟩)
        have CX := Lib.hid (fun wr (hb : Below W.heap.size W wr) => (show _ ∧ _ from ⟨(HB.out wr hb).1, CC _ (HB.out wr hb).2.1.lst⟩))
        clear e1 e2 HB CC hD hI hr hm ht hp hT
        generalize sumIf (fun r => decide (i ∈ r.xs)) (l.take k) = A at *
        go_wp2_with (go_at_call 25; refine HS.out.mono ?_; rintro e w2 ⟨rfl, hg2⟩; replace hb := hb.trans (hg2.mono hb.size); clear x0 xz y0 y1 y2 y3; obtain ⟨⟨x0, xz⟩, y0, y1, y2, y3⟩ := CX.out _ hb)
        go_roundg (l.length - (k + 1))
        case measure => omega
        case rel => exact NX.out _ hb
    · have q1 : ¬ (k : Int) < l.length := by omega
      have e1 : l.take k = l := List.take_of_length_le (by omega)
      rw [e1]
      have hI2 := Lib.hid hI
      clear HB hD hb hp hI hT ht
      rw [show sumIf (fun r => decide (i ∈ r.xs)) l = dGroup i l from rfl]
      generalize dGroup i l = RES at *
      go_wp2_with fail
      go_ret
      exact hI2.out
end Go.Proofs.Ytnocgdhepmgncaa.Ledger
