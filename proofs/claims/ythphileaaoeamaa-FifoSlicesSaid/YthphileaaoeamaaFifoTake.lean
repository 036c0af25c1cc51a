/- What Take and Drop of package fifo do. Conditions: as each fact states them. -/
import Derived.Test.YthphileaaoeamaaFifoMoves
namespace Go.Proofs.Ythphileaaoeamaa.Fifo
open Go.ChangeShapes Go.WideShapes Go.ChangeAt Go.RowKit Mem
set_option linter.unusedVariables false
set_option linter.unusedSimpArgs false
set_option maxRecDepth 100000

theorem take_nil (w : World) : Calls Try.prog 13 #[.pointer none] w (Still (.tuple #[.int .i64 0, .bool false]) w) := by
  go_enter Try.func13, Try.ntmps13
  go_wp2_with (go_at_call 16; refine (len_nil _).mono ?_; rintro e w1 ⟨rfl, rfl⟩)
  go_ret2; exact ⟨rfl, rfl⟩
theorem take_none (w : World) (b : Nat) (O : Nat → Prop) (h : Line w b O []) :
    Calls Try.prog 13 #[.pointer (some ⟨b, 0, none⟩)] w (Still (.tuple #[.int .i64 0, .bool false]) w) := by
  obtain ⟨r, f, h, ha⟩ := h
  have L := Lib.hid (len w b O r f _ h)
  go_enter Try.func13, Try.ntmps13
  go_wp2_with (go_at_call 16; refine L.out.mono ?_; rintro e w1 ⟨rfl, rfl⟩)
  go_ret2; exact ⟨rfl, rfl⟩
theorem take (w : World) (b : Nat) (O : Nat → Prop) (x : Int) (xs : List Int) (h : Line w b O (x :: xs)) :
    Calls Try.prog 13 #[.pointer (some ⟨b, 0, none⟩)] w (Did (.tuple #[.int .i64 x, .bool true]) xs b O w) := by
  obtain ⟨r, f, h, ha⟩ := h
  have L := Lib.hid (len w b O r f _ h)
  have hf := h.fst
  have hc := h.cnt
  obtain ⟨n, hn⟩ : ∃ n : Nat, n = xs.length := ⟨_, rfl⟩
  have hl : (x :: xs).length = n + 1 := by simp [hn]
  rw [hl] at L h hc
  have c0 := h.cell (k := f) (x := x) (by have := ha 0 (by simp); rw [show (f + 0) % 64 = f by omega] at this; simpa using this)
  have c1 := h.first
  have c2 := h.count
  have c3 := h.free
  have P := Lib.hid (fun w' (h' : Parts w' b O r f (n + 1)) => place w' b O r f _ h' 1 1 rfl (by omega))
  have q0 : (((n + 1 : Nat) : Int) == 0) = false := by simp; omega
  have q1 : ((n + 1 : Nat) : Int) - 1 = (n : Int) := by omega
  have HE : Hid (∀ m w' k, (f + 1) % 64 = k → w' = ((w.drewN m).setCell ⟨b, 64, none⟩ (.int .i64 (k : Int))).setCell ⟨b, 65, none⟩ (.int .i64 (n : Int)) → Line w' b O xs ∧ Same O w w') := fun m w' k hk hw => by
    subst hw hk
    have h0 := h.drewN m
    have h1 := h0.setF (f' := (f + 1) % 64) (by omega)
    have h2 := h1.setN (n' := n) (by omega)
    refine ⟨⟨r, _, by rw [← hn]; exact h2, ha.tail⟩, (((Same.refl O w).drewN m).setCell (p := ⟨b, _, none⟩) h.out _).setCell (p := ⟨b, _, none⟩) h.out _⟩
  replace P := Lib.hid (fun m => P.out (w.drewN m) (h.drewN m))
  replace HE := Lib.hid (fun m => HE.out m _ _ rfl rfl)
  have hk : (f + 1) % 64 < 64 := by omega
  clear ha hn h
  generalize (f + 1) % 64 = k at *
  go_enter Try.func13, Try.ntmps13
  go_wp2_with (go_at_call 16; refine L.out.mono ?_; rintro e w1 ⟨rfl, rfl⟩)
  go_quiet (fail)
  replace P := Lib.hid (P.out nq)
  replace HE := Lib.hid (HE.out nq)
  have c1' : (w1.drewN nq).cell? ⟨b, 64, none⟩ = some (.int .i64 f) := c1
  have c2' : (w1.drewN nq).cell? ⟨b, 65, none⟩ = some (.int .i64 ((n + 1 : Nat) : Int)) := c2
  have c3' : ∀ j, (w1.drewN nq).frozen? ⟨b, j, none⟩ = false := c3
  clear c0 c1 c2 c3 L
  generalize w1.drewN nq = W at *
  go_wp2_with (go_at_call 24; refine P.out.mono ?_; rintro e w2 ⟨rfl, rfl⟩)
  go_ret2
  exact ⟨rfl, HE.out⟩

theorem drop_nil (w : World) (p : Int) : Calls Try.prog 14 #[.pointer none, .int .i64 p] w (Still (.bool false) w) := by
  go_enter Try.func14, Try.ntmps14
  go_wp2_with (go_at_call 23; refine (ahead_nil _ _).mono ?_; rintro e w1 ⟨rfl, rfl⟩)
  go_ret; exact ⟨rfl, rfl⟩
theorem drop_none (w : World) (b : Nat) (O : Nat → Prop) (xs : List Int) (p : Int) (h : Line w b O xs) (hp : p ∉ xs) :
    Calls Try.prog 14 #[.pointer (some ⟨b, 0, none⟩), .int .i64 p] w (Did (.bool false) (xs.erase p) b O w) := by
  have AH := Lib.hid (ahead w b O xs p h)
  rw [ahd_out hp] at AH
  rw [List.erase_of_not_mem hp]
  go_enter Try.func14, Try.ntmps14
  go_wp2_with (go_at_call 23; refine AH.out.mono ?_; rintro e w1 ⟨rfl, m, rfl⟩)
  go_ret; exact ⟨rfl, h.drewN m, (Same.refl _ _).drewN m⟩
def DropI (w : World) (b : Nat) (O : Nat → Prop) (f n a : Nat) (xs : List Int) (left : Nat) (t : Value) (wr : World) : Prop :=
  ∃ (k : Nat) (r : List Int), a ≤ k ∧ k ≤ n ∧ left = n - k ∧ t = .int .i64 k ∧ Hid (Parts wr b O r f n) ∧ Hid (At r f xs.length (up xs a k)) ∧ Hid (Same O w wr)
theorem drop_some (w : World) (b : Nat) (O : Nat → Prop) (xs : List Int) (p : Int) (h : Line w b O xs) (hp : p ∈ xs) :
    Calls Try.prog 14 #[.pointer (some ⟨b, 0, none⟩), .int .i64 p] w (Did (.bool true) (xs.erase p) b O w) := by
  have AH := Lib.hid (ahead w b O xs p h)
  obtain ⟨a1, a2⟩ := ahd_in hp
  rw [a1] at AH
  obtain ⟨r, f, h, ha⟩ := h
  have hc := h.cnt
  obtain ⟨n, hn⟩ : ∃ n : Nat, xs.length = n + 1 := ⟨xs.length - 1, by omega⟩
  have EL : (xs.erase p).length = n := by rw [List.length_erase_of_mem hp, hn]; rfl
  rw [hn] at h
  have AS := Lib.hid (ha.start (xs.idxOf p))
  have AD := Lib.hid (fun r (h : At r f xs.length (up xs (xs.idxOf p) n)) => At.done hp (by rw [show xs.length - 1 = n by omega]; exact h))
  generalize xs.idxOf p = a at *
  have c2 := h.count
  have c3 := h.free
  have q0 : (0 : Int) ≤ a := by omega
  have q1 : ((n + 1 : Nat) : Int) - 1 = (n : Int) := by omega
  have S0 := Lib.hid (fun m => (show DropI w b O f n a xs (n - a) (.int .i64 a) ((w.drewN m).setCell ⟨b, 65, none⟩ (.int .i64 (n : Int))) from
    ⟨a, r, by omega, by omega, rfl, rfl, Lib.hid ((h.drewN m).setN (by omega)), AS, Lib.hid (((Same.refl O w).drewN m).setCell (p := ⟨b, _, none⟩) h.out _)⟩))
  clear ha h
  go_enter Try.func14, Try.ntmps14
  go_wp2_with (go_at_call 23; refine AH.out.mono ?_; rintro e w1 ⟨rfl, m, rfl⟩)
  go_loopg [5] (n - a) (fun left t wr => DropI w b O f n a xs left t wr)
  case atStart => exact S0.out m
  case round =>
    clear c2 c3 AH S0 AS
    obtain ⟨k, r', hak, hk, rfl, rfl, hP, hA, hS⟩ := hrel
    have c2 := hP.out.count
    have c3 := hP.out.free
    have hf := hP.out.fst
    by_cases hlt : k < n
    · have q2 : (k : Int) < n := by omega
      obtain ⟨x, hx⟩ : ∃ x, xs[k + 1]? = some x := ⟨_, List.getElem?_eq_getElem (by omega)⟩
      obtain ⟨x1, x2⟩ := hA.out.step hP.out.len hc hak hx
      obtain ⟨y, hy⟩ : ∃ y, r'[(f + k) % 64]? = some y := ⟨_, List.getElem?_eq_getElem (by rw [hP.out.len]; omega)⟩
      have c0 := hP.out.cell x1
      have c1 := hP.out.cell hy
      have d0 : wr.drew.cell? ⟨b, (f + (k + 1)) % 64, none⟩ = some (.int .i64 x) := c0
      have P1 := Lib.hid (place wr.drew b O r' f _ (hP.out.fresh (Below.refl _ wr).drew) k k rfl (by omega))
      have P2 := Lib.hid (place wr.drew b O r' f _ (hP.out.fresh (Below.refl _ wr).drew) ((k : Int) + 1) (k + 1) (by omega) (by omega))
      have hj1 : (f + k) % 64 < 64 := by omega
      have hj2 : (f + (k + 1)) % 64 < 64 := by omega
      have NX : Hid (∀ w', w' = (wr.setCell ⟨b, (f + k) % 64, none⟩ (.int .i64 x)).drew → DropI w b O f n a xs (n - (k + 1)) (.int .i64 ((k : Int) + 1)) w') := fun w' hw => by
        subst hw
        exact ⟨k + 1, _, by omega, by omega, rfl, by go_num, Lib.hid ((hP.out.setR hj1 x).fresh (Below.refl _ _).drew), Lib.hid x2, Lib.hid ((hS.out.setCell (p := ⟨b, _, none⟩) hP.out.out _).drew)⟩
      replace NX := Lib.hid (NX.out _ rfl)
      have q3 : (k : Int) ≤ 64 := by omega
      have q4 : IntKind.i64.wrap ((k : Int) + 1) = (k : Int) + 1 := by rw [IntKind.wrap_i64]; omega
      clear hP hA hS x1 x2 hy hx AD
      generalize (f + k) % 64 = j1 at *
      generalize (f + (k + 1)) % 64 = j2 at *
      go_wp2_with fail
      go_region_with (go_at_call 24; first
        | ((with_reducible refine P1.out.mono ?_); rintro e w1 ⟨rfl, rfl⟩)
        | ((with_reducible refine P2.out.mono ?_); rintro e w1 ⟨rfl, rfl⟩))
      all_goals
        go_wp2_with fail
        go_roundg (n - (k + 1))
        case measure => omega
        case rel => exact NX.out
    · obtain rfl : k = n := by omega
      have q2 : ¬ (k : Int) < k := by omega
      have FIN := Lib.hid (show Line wr b O (xs.erase p) ∧ Same O w wr from ⟨⟨r', f, by rw [EL]; exact hP.out, AD.out _ hA.out⟩, hS.out⟩)
      clear hP hA hS AD
      go_wp2_with fail
      go_ret
      exact ⟨rfl, FIN.out⟩
theorem drop (w : World) (b : Nat) (O : Nat → Prop) (xs : List Int) (p : Int) (h : Line w b O xs) :
    Calls Try.prog 14 #[.pointer (some ⟨b, 0, none⟩), .int .i64 p] w (Did (.bool (decide (p ∈ xs))) (xs.erase p) b O w) := by
  by_cases hp : p ∈ xs
  · rw [show decide (p ∈ xs) = true by simpa using hp]; exact drop_some w b O xs p h hp
  · rw [show decide (p ∈ xs) = false by simpa using hp]; exact drop_none w b O xs p h hp
end Go.Proofs.Ythphileaaoeamaa.Fifo
