/- What Return and Refill of package quota do. Conditions: a sound band. -/
import Derived.Test.YtjjcaplkmbigdaaQuotaDraw
namespace Go.Proofs.Ytjjcaplkmbigdaa.Quota
open Go.ChangeShapes Go.WideShapes Go.ChangeAt Go.RowKit Mem
open Fix (I64)
set_option linter.unusedVariables false
set_option linter.unusedSimpArgs false
set_option maxRecDepth 100000

theorem return_nil (w : World) (p : Int) : Calls Try.prog 19 #[.pointer none, .int .i64 p] w (Still (.tuple #[]) w) := by
  go_enter Try.func19, Try.ntmps19
  go_wp2_with (go_at_call 31; refine (has_nil _ _).mono ?_; rintro e w1 ⟨rfl, rfl⟩)
  go_end0; exact ⟨rfl, rfl⟩
theorem refill_nil (w : World) : Calls Try.prog 21 #[.pointer none] w (Still (.tuple #[]) w) := by
  go_enter Try.func21, Try.ntmps21
  go_wp2
  exact bodyPost_ret (v := .tuple #[]) (by simp [results, Try.results21]) rfl ⟨rfl, rfl⟩

theorem returns (w : World) (b : Nat) (O : Nat → Prop) (d : Bd) (p : Int) (h : Band w b O d) {M S : Int} (hi : Inv M S d) :
    Calls Try.prog 19 #[.pointer (some ⟨b, 0, none⟩), .int .i64 p] w (Did (.tuple #[]) (retS d p) b O w) := by
  have C := Lib.hid (has w b O d p h)
  cases hh : here d p
  · rw [show retS d p = d by simp [retS, hh]]
    rw [hh] at C
    have H := Lib.hid h
    clear h
    go_enter Try.func19, Try.ntmps19
    go_wp2_with (go_at_call 31; refine C.out.mono ?_; rintro e w1 ⟨rfl, rfl⟩)
    go_end0; exact ⟨rfl, H.out, Same.refl _ _⟩
  rw [hh] at C
  obtain ⟨k, rfl, hk⟩ := here_in hh
  have hk1 : (k : Int) < d.loc.length := by omega
  have HB := Lib.hid h
  obtain ⟨g, hP⟩ := h
  obtain ⟨c0, c1, c2, c3, c4, fz⟩ := hP.cells
  have ck := hP.cell hk
  have ff := hP.free
  have a2 := hi.at_le k; have a3 := hi.p0; have a5 := hi.q1
  by_cases ha : 0 < d.at k
  · rw [show retS d k = { d with p := d.p + d.at k, loc := d.loc.set k 0 } by simp [retS, hh, ha]]
    have X : ∀ W, W = (w.setCell ⟨b, 2, none⟩ (.int .i64 (d.p + d.at k))).drew → (W.cell? ⟨b, 3, none⟩ = some (.slice (some ⟨g, 0, none⟩) d.loc.length d.loc.length) ∧ W.cell? ⟨g, k, none⟩ = some (.int .i64 (d.at k)) ∧ (∀ j, W.frozen? ⟨g, j, none⟩ = false) ∧ Band (W.setCell ⟨g, k, none⟩ (.int .i64 0)) b O { d with p := d.p + d.at k, loc := d.loc.set k 0 } ∧ Same O w (W.setCell ⟨g, k, none⟩ (.int .i64 0))) := by
      rintro W rfl
      have h2 := (hP.setP (d.p + d.at k)).drew
      exact ⟨h2.cells.2.2.2.1, h2.cell (d := { d with p := d.p + d.at k }) hk, fun j => h2.free j, ⟨g, h2.setL k 0⟩, (((Same.refl O w).setCell (p := ⟨b, 2, none⟩) hP.out _).drew).setCell (p := ⟨g, k, none⟩) hP.rout _⟩
    replace X := Lib.hid X
    clear hP HB hi hh
    generalize d.at k = x at *
    generalize d.p = y at *
    generalize d.loc.length = n at *
    have hg0 := (Below.refl w.heap.size w).drew
    go_enter Try.func19, Try.ntmps19
    go_wp2_with (go_at_call 31; refine C.out.mono ?_; rintro e w1 ⟨rfl, rfl⟩)
    go_region
    obtain ⟨k3, kx, kz, kE⟩ := X.out _ rfl
    have E := Lib.hid kE
    clear X kE c0 c1 c2 c3 c4 fz ck ff
    generalize (w.setCell ⟨b, 2, none⟩ (.int .i64 (y + x))).drew = W at *
    go_wp2
    go_end0
    exact ⟨rfl, E.out.1, E.out.2⟩
  · rw [show retS d k = d by simp [retS, ha]]
    clear hP hi hh
    generalize d.at k = x at *
    generalize d.loc.length = n at *
    go_enter Try.func19, Try.ntmps19
    go_wp2_with (go_at_call 31; refine C.out.mono ?_; rintro e w1 ⟨rfl, rfl⟩)
    go_end0; exact ⟨rfl, HB.out, Same.refl _ _⟩

/-- The first k local times cut to 0 at most. -/
def cutK (l : List Int) : Nat → List Int
  | 0 => l
  | k + 1 => (cutK l k).set k (min (l[k]?.getD 0) 0)
theorem cutK_len (l : List Int) (k : Nat) : (cutK l k).length = l.length := by
  induction k with
  | zero => rfl
  | succ k ih => simp [cutK, ih]
theorem cutK_get (l : List Int) (k j : Nat) : (cutK l k)[j]? = if j < k then l[j]?.map (min · 0) else l[j]? := by
  induction k generalizing j with
  | zero => simp [cutK]
  | succ k ih =>
    rw [cutK, List.getElem?_set, cutK_len, ih]
    by_cases h1 : k = j
    · subst h1
      rw [if_pos rfl, if_pos (Nat.lt_succ_self k)]
      by_cases h2 : k < l.length
      · rw [if_pos h2, List.getElem?_eq_getElem h2]; rfl
      · rw [if_neg h2, List.getElem?_eq_none (by omega)]; rfl
    · rw [if_neg h1]
      by_cases h2 : j < k
      · rw [if_pos h2, if_pos (by omega)]
      · rw [if_neg h2, if_neg (by omega)]
theorem cutK_all (l : List Int) : cutK l l.length = l.map (min · 0) := by
  apply List.ext_getElem?
  intro j
  rw [cutK_get, List.getElem?_map]
  by_cases h : j < l.length
  · rw [if_pos h]
  · rw [if_neg h, List.getElem?_eq_none (by omega)]; rfl
theorem cutK_here (d : Bd) (k : Nat) : (cutK d.loc k)[k]?.getD 0 = d.at k := by rw [cutK_get, if_neg (Nat.lt_irrefl k)]; rfl

def FillI (w : World) (b g : Nat) (O : Nat → Prop) (d : Bd) (left : Nat) (t : Value) (wr : World) : Prop :=
  ∃ k : Nat, k ≤ d.loc.length ∧ left = d.loc.length - k ∧ t = .int .i64 k ∧ Parts wr b g O { d with p := d.q, sp := 0, loc := cutK d.loc k } ∧ Same O w wr
theorem refill (w : World) (b : Nat) (O : Nat → Prop) (d : Bd) (h : Band w b O d) (hl : d.loc.length ≤ 64) :
    Calls Try.prog 21 #[.pointer (some ⟨b, 0, none⟩)] w (Did (.tuple #[]) (refS d) b O w) := by
  obtain ⟨g, hP⟩ := h
  obtain ⟨c0, c1, c2, c3, c4, fz⟩ := hP.cells
  have E : Parts ((w.setCell ⟨b, 2, none⟩ (.int .i64 d.q)).setCell ⟨b, 4, none⟩ (.int .i64 0)) b g O { d with p := d.q, sp := 0 } ∧ Same O w ((w.setCell ⟨b, 2, none⟩ (.int .i64 d.q)).setCell ⟨b, 4, none⟩ (.int .i64 0)) := ⟨(hP.setP d.q).setSp 0, ((Same.refl O w).setCell (p := ⟨b, 2, none⟩) hP.out _).setCell (p := ⟨b, 4, none⟩) hP.out _⟩
  have E' := Lib.hid E
  clear E
  clear hP
  rw [show refS d = { d with p := d.q, sp := 0, loc := cutK d.loc d.loc.length } by rw [cutK_all]; rfl]
  go_enter Try.func21, Try.ntmps21
  go_upto_region 2 with fail
  obtain ⟨hP, hs⟩ := E'.out
  generalize (w.setCell ⟨b, 2, none⟩ (.int .i64 d.q)).setCell ⟨b, 4, none⟩ (.int .i64 0) = W at *
  clear c0 c1 c2 c3 c4 fz E'
  obtain ⟨c0, c1, c2, c3, c4, fz⟩ := hP.cells
  simp only at c3
  go_wp2
  go_loopg [21] d.loc.length (fun left t wr => FillI w b g O d left t wr)
  case atStart => exact ⟨0, by omega, rfl, rfl, hP, hs⟩
  case round =>
    clear c0 c1 c2 c3 c4 fz hP hs
    obtain ⟨k, hk, rfl, rfl, hP, hs⟩ := hrel
    obtain ⟨c0, c1, c2, c3, c4, fz⟩ := hP.cells
    simp only [cutK_len] at c3
    by_cases hlt : k < d.loc.length
    · have h3 : (k : Int) < d.loc.length := by omega
      have ck := hP.cell (k := k) (by simpa [cutK_len] using hlt)
      rw [show Bd.at { d with p := d.q, sp := 0, loc := cutK d.loc k } k = d.at k from cutK_here d k] at ck
      have ff := hP.free
      have X := Lib.hid (show ∀ x, x = min (d.at k) 0 → FillI w b g O d (d.loc.length - (k + 1)) (.int .i64 ((k : Int) + 1)) (wr.setCell ⟨g, k, none⟩ (.int .i64 x)) from fun x hx => by
        subst hx
        exact ⟨k + 1, by omega, rfl, by go_num, hP.setL k _, hP.sameG hs k _⟩)
      clear hP hs
      generalize hn : d.loc.length = n at *
      generalize d.at k = x at *
      go_wp2
      all_goals
        go_roundg (n - (k + 1))
        case measure => omega
        case rel => exact X.out _ (by omega)
    · obtain rfl : k = d.loc.length := by omega
      have h3 : ¬ (d.loc.length : Int) < d.loc.length := by omega
      go_wp2
      go_end0
      exact ⟨rfl, ⟨g, hP⟩, hs⟩
end Go.Proofs.Ytjjcaplkmbigdaa.Quota
