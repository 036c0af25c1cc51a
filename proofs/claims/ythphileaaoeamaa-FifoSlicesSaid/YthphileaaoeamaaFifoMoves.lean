/- What the calls of package fifo that change a line do. Conditions: as each fact states them. -/
import Derived.Test.YthphileaaoeamaaFifoReads
namespace Go.Proofs.Ythphileaaoeamaa.Fifo
open Go.ChangeShapes Go.WideShapes Go.ChangeAt Go.RowKit Mem
set_option linter.unusedVariables false
set_option linter.unusedSimpArgs false
set_option maxRecDepth 100000

/-- An answer; the line is xs now; what lies in O is as it was. -/
def Did (v : Value) (xs : List Int) (b : Nat) (O : Nat → Prop) (w : World) (e : Ending) (w' : World) : Prop := e = .returned v ∧ Line w' b O xs ∧ Same O w w'

def IsNew (w : World) (e : Ending) (w' : World) : Prop := e = .returned (.pointer (some ⟨w.heap.size, 0, none⟩)) ∧ Line w' w.heap.size (· < w.heap.size) [] ∧ Below w.heap.size w w'
theorem info_one {o : Option TypeInfo} {z : Option Value} (h : o.map (fun i => i.zero) = some z) : ∃ i, o = some i ∧ i.zero = z := by
  cases o with
  | none => simp at h
  | some i => simp at h; exact ⟨i, rfl, h⟩
theorem infoN : (Try.prog.info? 53).map (fun i => i.zero) = some (some (.agg (cells (List.replicate 64 0) 0 0))) := by kernel_rfl
theorem new (w : World) : Calls Try.prog 10 #[] w (IsNew w) := by
  have HZ : ∀ w, Sem.run Try.prog (zeroValue 53) w = .ok (.agg (cells (List.replicate 64 0) 0 0)) w := fun w => by
    obtain ⟨i, hi, hz⟩ := info_one infoN
    simp [zeroValue, typeInfo, hi, hz]
  have H0 := heap_alloc_new w (.cells (cells (List.replicate 64 0) 0 0) 53 (0, 0))
  have E : Hid (∀ w', w' = w.alloc (.cells (cells (List.replicate 64 0) 0 0) 53 (0, 0)) → Line w' w.heap.size (· < w.heap.size) [] ∧ Below w.heap.size w w') := fun w' hw => by
    subst hw
    exact ⟨⟨List.replicate 64 0, 0, ⟨H0, by omega, by simp, by omega, by simp⟩, fun i hi => by simp at hi⟩, alloc1 w _⟩
  clear H0
  generalize cells (List.replicate 64 0) 0 0 = C at *
  go_enter Try.func10, Try.ntmps10
  go_wp2
  go_ret
  exact ⟨rfl, E.out _ rfl⟩

theorem put_nil (w : World) (p : Int) : Calls Try.prog 11 #[.pointer none, .int .i64 p] w (Still (.bool false) w) := by
  go_enter Try.func11, Try.ntmps11
  go_wp2
  go_ret; exact ⟨rfl, rfl⟩
theorem put (w : World) (b : Nat) (O : Nat → Prop) (xs : List Int) (p : Int) (h : Line w b O xs) :
    Calls Try.prog 11 #[.pointer (some ⟨b, 0, none⟩), .int .i64 p] w (Did (.bool (may xs p)) (putL xs p) b O w) := by
  have AH := Lib.hid (ahead w b O xs p h)
  by_cases h1 : p < 0
  · have E : may xs p = false := by simp [may, h1]
    rw [show putL xs p = xs by simp [putL, E], E]
    clear AH
    go_enter Try.func11, Try.ntmps11
    go_wp2
    go_ret; exact ⟨rfl, h, Same.refl _ _⟩
  · have hf := h.few
    by_cases h2 : xs.length = 64
    · have E : may xs p = false := by simp [may, h2]
      rw [show putL xs p = xs by simp [putL, E], E]
      have FF := Lib.hid h
      obtain ⟨r, f, h, ha⟩ := h
      rw [h2] at h
      have c1 := h.count
      have c2 := h.free
      clear h ha AH
      go_enter Try.func11, Try.ntmps11
      go_wp2
      go_ret; exact ⟨rfl, FF.out, Same.refl _ _⟩
    · by_cases h3 : p ∈ xs
      · have E : may xs p = false := by simp [may, h3]
        rw [show putL xs p = xs by simp [putL, E], E]
        obtain ⟨a1, a2⟩ := ahd_in h3
        rw [a1] at AH
        have FF := Lib.hid h
        obtain ⟨r, f, h, ha⟩ := h
        have c1 := h.count
        have c2 := h.free
        have q1 : ((xs.length : Int) == 64) = false := by simp; omega
        have q2 : (0 : Int) ≤ (xs.idxOf p : Int) := by omega
        clear h ha
        generalize xs.idxOf p = i at *
        go_enter Try.func11, Try.ntmps11
        go_wp2_with (go_at_call 23; refine AH.out.mono ?_; rintro e w1 ⟨rfl, m, rfl⟩)
        go_ret; exact ⟨rfl, FF.out.drewN m, (Same.refl _ _).drewN m⟩
      · have E : may xs p = true := by simp [may, h3]; omega
        rw [show putL xs p = xs ++ [p] by simp [putL, E], E]
        rw [ahd_out h3] at AH
        obtain ⟨r, f, h, ha⟩ := h
        have c1 := h.count
        have c2 := h.free
        have q1 : ((xs.length : Int) == 64) = false := by simp; omega
        have q3 : (xs.length : Int) ≤ 63 := by omega
        have P := Lib.hid (fun w' (h' : Parts w' b O r f xs.length) => place w' b O r f xs.length h' xs.length xs.length rfl (by omega))
        have hj : (f + xs.length) % 64 < 64 := by omega
        go_enter Try.func11, Try.ntmps11
        go_wp2_with (go_at_call 23; refine AH.out.mono ?_; rintro e w1 ⟨rfl, m, rfl⟩)
        have S1 := Lib.hid ((Same.refl O w).drewN m)
        replace h := h.drewN m
        have HX : Hid (∀ w', w' = ((w.drewN m).setCell ⟨b, (f + xs.length) % 64, none⟩ (.int .i64 p)).drew → Parts w' b O (r.set ((f + xs.length) % 64) p) f xs.length ∧ Same O w w') := fun w' hw => by
          subst hw
          have h2 : Parts (w.drewN m).drew b O r f xs.length := h.fresh (Below.refl _ (w.drewN m)).drew
          exact ⟨(h.setR hj p).fresh (Below.refl _ _).drew, (S1.out.setCell (p := ⟨b, _, none⟩) h.out _).drew⟩
        have A2 := Lib.hid (ha.put h.len (by omega) p)
        have P2 := Lib.hid (P.out _ (h.fresh (Below.refl _ (w.drewN m)).drew))
        have c1 := h.count
        have c2 := h.free
        have fL : xs.length < 64 := by omega
        obtain ⟨x0, hx0⟩ : ∃ x0, r[(f + xs.length) % 64]? = some x0 := ⟨_, List.getElem?_eq_getElem (by rw [h.len]; exact hj)⟩
        have c3 := h.cell hx0
        clear AH P S1 ha
        generalize w.drewN m = W at *
        generalize (f + xs.length) % 64 = k at *
        clear h
        go_region_with (go_at_call 24; refine P2.out.mono ?_; rintro e w1 ⟨rfl, rfl⟩)
        all_goals
          obtain ⟨h3, s3⟩ := HX.out _ rfl
          generalize (W.setCell ⟨b, k, none⟩ (.int .i64 p)).drew = W1 at *
          have S3 := Lib.hid s3
          have c5 := h3.count
          have c6 := h3.free
          have HE : Hid (∀ w', w' = W1.setCell ⟨b, 65, none⟩ (.int .i64 ((xs.length : Int) + 1)) → Line w' b O (xs ++ [p]) ∧ Same O w w') := fun w' hw => by
            subst hw
            have h4 := h3.setN (n' := xs.length + 1) (by omega)
            rw [show ((xs.length + 1 : Nat) : Int) = (xs.length : Int) + 1 by omega] at h4
            exact ⟨⟨_, f, by simpa using h4, A2.out⟩, S3.out.setCell (p := ⟨b, _, none⟩) h3.out _⟩
          clear h3 s3 S3 HX P2 c1 c2
          go_wp2
          go_ret
          exact ⟨rfl, HE.out _ rfl⟩
end Go.Proofs.Ythphileaaoeamaa.Fifo
