/- What the document's Parse tells of a text: just what mask.Parse does. Conditions: the text is of at most 2^47 - 4096 bytes. -/
import Derived.Test.YtikdhfedidknpaaDoorMaskRefN
import Derived.Laws.Bits64b
namespace Go.Proofs.YtikdhfedidknpaaDoor.Mask
open Go.ChangeShapes Go.WideShapes Go.ChangeAt Go.RowKit
set_option linter.unusedVariables false
set_option linter.unusedSimpArgs false
set_option maxRecDepth 100000

def toldFrom (s : Nat × Bool) (o : Option (List (Nat × Nat))) : Nat × Int :=
  match o with
  | none => (0, 11)
  | some ps => if (joinP s ps).2 then (0, 1) else ((joinP s ps).1, 0)
theorem toldFrom_nil (s : Nat × Bool) : toldFrom s (some []) = if s.2 then (0, 1) else (s.1, 0) := rfl
theorem toldFrom_step (s : Nat × Bool) (k : Nat) (l : List UInt8) : toldFrom s (partsF (k + 1) l) = match part (ahead 44 l) with
    | none => (0, 11)
    | some p => if found 44 l then toldFrom (join1 s p) (partsF k (behind 44 l)) else toldFrom (join1 s p) (some []) := by
  show toldFrom s ((part (ahead 44 l)).bind fun p => if found 44 l then (partsF k (behind 44 l)).map (p :: ·) else some [p]) = _
  cases part (ahead 44 l) with
  | none => rfl
  | some p =>
    simp only [Option.bind_some]
    cases found 44 l with
    | false => rfl
    | true =>
      simp only [↓reduceIte]
      cases partsF k (behind 44 l) with
      | none => rfl
      | some ps => rfl
theorem toldFrom_wrong (S S' : Nat) : ∀ o, toldFrom (S, true) o = toldFrom (S', true) o
  | none => rfl
  | some ps => by
    unfold toldFrom
    simp only
    rw [joinP_frame ps S, joinP_frame ps S']
    simp

theorem join_ (a b : Nat) (ha : a < 18446744073709551616) (hb : b < 18446744073709551616) (w : World) : Calls Tryd.prog 65 #[.int .u64 a, .int .u64 b] w (IsU (a ||| b) w) := by
  have e := bits_or_u64_nat a b ha hb
  go_enter Tryd.func65, Tryd.ntmps65
  go_wp2
  go_ret
  exact ⟨congrArg (fun z => Ending.returned (.int .u64 z)) (by first | exact e | rfl), rfl⟩

/-- How far the document is. -/
def DocI (T : Nat × Int) (w : World) (x a o m : Value) (wr : World) : Prop :=
  ∃ (s : ByteArray) (l : List UInt8) (A : Nat) (W more : Bool), x = .string s ∧ l = s.data.toList ∧ s.size ≤ 140737488351232 ∧ a = .int .u64 A ∧ A < 18446744073709551616 ∧ o = .bool W ∧ m = .bool more ∧
    ((more = true ∧ toldFrom (A, W) (partsF (l.length + 1) l) = T) ∨ (more = false ∧ toldFrom (A, W) (some []) = T)) ∧ Below w.heap.size w wr

theorem partsF_more : ∀ (k j : Nat) (l : List UInt8), l.length < k → l.length < j → partsF k l = partsF j l
  | 0, _, l, h, _ => by omega
  | _, 0, l, _, h => by omega
  | k + 1, j + 1, l, h1, h2 => by
    unfold partsF
    cases part (ahead 44 l) with
    | none => rfl
    | some p =>
      simp only [Option.bind_some]
      cases hf : found 44 l with
      | false => rfl
      | true =>
        have := behind_lt hf
        rw [partsF_more k j (behind 44 l) (by omega) (by omega)]

def IsDoc (T : Nat × Int) (w : World) (e : Ending) (w' : World) : Prop := e = .returned (.tuple #[.int .u64 T.1, .int .i64 T.2]) ∧ Below w.heap.size w w'

theorem behind_le (c : UInt8) (l : List UInt8) : (behind c l).length ≤ l.length := by
  by_cases hf : found c l = true
  · exact Nat.le_of_lt (behind_lt hf)
  · have hd : l.dropWhile (· != c) = [] := by simpa [found] using hf
    unfold behind
    rw [hd]
    simp

set_option maxHeartbeats 4000000 in
theorem docParse (s : ByteArray) (l : List UInt8) (hl : l = s.data.toList) (hs : s.size ≤ 140737488351232) (w : World) : Calls Tryd.prog 48 #[.string s] w (IsDoc (parse l) w) := by
  by_cases h0 : s.toList.isEmpty = true
  · have e : l = [] := by
      subst hl
      rw [str_toList] at h0
      simpa using h0
    subst e
    clear hl
    go_enter Tryd.func48, Tryd.ntmps48
    go_wp2
    go_ret2
    exact ⟨rfl, Below.refl _ _⟩
  have h0' : s.toList.isEmpty = false := by simpa using h0
  have hl0 : l ≠ [] := by
    subst hl
    intro h
    apply h0
    rw [str_toList, h]
    rfl
  have hT : parse l = toldFrom (0, false) (partsF (l.length + 1) l) := parse_parts l hl0
  have start : DocI (parse l) w (.string s) (.int .u64 0) (.bool false) (.bool true) w := ⟨s, l, 0, false, true, rfl, hl, hs, rfl, by decide, rfl, rfl, .inl ⟨rfl, hT.symm⟩, Below.refl _ _⟩
  have st := Lib.hid start
  generalize parse l = T at *
  clear hT hl hs h0 hl0 start
  go_enter Tryd.func48, Tryd.ntmps48
  go_wp2
  go_loopw [0, 4, 5, 6] (fun x a o m wr => DocI T w x a o m wr) (fun x _ _ m _ => (match x with | .string s => s.size | _ => 0) + (match m with | .bool true => 1 | _ => 0))
  case atStart => exact st.out
  case round =>
    obtain ⟨t, l, A, W, more, rfl, hl, hs, rfl, hA, rfl, rfl, hm, hb⟩ := hrel
    rcases hm with ⟨rfl, hm⟩ | ⟨rfl, hm⟩
    · have C := Lib.hid (split t l hl hs 44 44 rfl wr)
      have hlen : l.length = t.size := by rw [hl]; simp
      have hla : (ahead 44 l).length ≤ l.length := by
        by_cases hf : found 44 l = true
        · have := congrArg List.length (split_found hf); simp at this; omega
        · rw [(split_none (by simpa using hf)).1]; exact Nat.le_refl _
      have sz : ∀ a : ByteArray, a.data.toList = ahead 44 l → a.size ≤ 140737488351232 := by
        intro a h
        have : a.size = (ahead 44 l).length := by rw [← h]; simp
        omega
      have PT : Hid (∀ (a : ByteArray), a.data.toList = ahead 44 l → ∀ w, Calls Tryd.prog 64 #[.string a] w (Part (part (ahead 44 l)) w)) := Lib.hid (fun a h w => part_ a _ h.symm (sz a h) w)
      clear sz
      rw [toldFrom_step] at hm
      unfold Split at C
      have hbl : found 44 l = true → (behind 44 l).length < l.length := behind_lt
      have hbl' := Lib.hid (And.intro hbl (And.intro (behind_le 44 l) hlen))
      generalize found 44 l = F at *
      generalize behind 44 l = B at *
      generalize part (ahead 44 l) = P at *
      generalize ahead 44 l = AH at *
      have hb' := Lib.hid hb
      clear hl hla hb hbl hlen
      cases P with
      | none =>
        have hm' := Lib.hid hm
        clear hm
        cases F
        all_goals
          go_wp2_with (go_at_call 63; refine C.out.mono ?_; rintro e w1 ⟨a, b, rfl, ha, hb, hg⟩)
          refine (PT.out a ha _).mono ?_; rintro e w2 ⟨S, rfl, hS, hS2, hg2⟩
          go_wp2_with fail
          go_ret2
          exact ⟨by rw [← hm'.out]; rfl, (hb'.out.trans (hg.mono hb'.out.size)).trans (hg2.mono (Nat.le_trans hb'.out.size hg.size))⟩
      | some p =>
        have step : ∀ S : Nat, (badP p = false → S = rw' p.1 p.2) → ∀ o, toldFrom (A ||| S, W || badP p) o = toldFrom (join1 (A, W) p) o := by
          intro S h o
          unfold join1
          by_cases hbad : badP p = true
          · simp only [hbad, Bool.or_true]
            exact toldFrom_wrong _ _ o
          · simp only [Bool.not_eq_true] at hbad
            simp [hbad, h hbad]
        have step' := Lib.hid step
        have hm' := Lib.hid hm
        clear hm step
        have JN := Lib.hid (fun (b : Nat) (h : b < 18446744073709551616) (w : World) => join_ A b hA h w)
        have fin : ∀ (b : ByteArray) (S : Nat) (w1 w2 : World), B = b.data.toList → S < 18446744073709551616 → (badP p = false → S = rw' p.1 p.2) → Below wr.heap.size wr w1 → Below w1.heap.size w1 w2 →
            DocI T w (.string b) (.int .u64 (A ||| S : Nat)) (.bool (W || badP p)) (.bool F) w2 ∧ (b.size + (if F = true then 1 else 0) < t.size + 1) := by
          intro b S w1 w2 h1 h2 h3 h4 h5
          obtain ⟨q1, q2, q3⟩ := hbl'.out
          have hbs : b.size = B.length := by rw [h1]; simp
          refine ⟨⟨b, B, A ||| S, W || badP p, F, rfl, h1, by omega, rfl, or_lt hA h2, rfl, rfl, ?_, (hb'.out.trans (h4.mono hb'.out.size)).trans (h5.mono (Nat.le_trans hb'.out.size h4.size))⟩, ?_⟩
          · rw [step'.out S h3, step'.out S h3]
            have h6 := hm'.out
            cases F
            · exact .inr ⟨rfl, by simpa using h6⟩
            · refine .inl ⟨rfl, ?_⟩
              have h7 := q1 rfl
              rw [partsF_more (B.length + 1) l.length B (by omega) h7]
              simpa using h6
          · cases F
            · simp
              omega
            · have h7 := q1 rfl
              simp
              omega
        have fin' := Lib.hid fin
        clear fin step' hm' hbl' hb'
        generalize hbad : badP p = bad at *
        have hbad' := Lib.hid hbad
        cases F <;> cases W <;> cases bad
        all_goals
          go_wp2_with (go_at_call 63; refine C.out.mono ?_; rintro e w1 ⟨a, b, rfl, ha, hb, hg⟩)
          refine (PT.out a ha _).mono ?_; rintro e w2 ⟨S, rfl, hS, hS2, hg2⟩
          have X := Lib.hid (fin'.out b S w1 w2 hb.symm hS (fun h => hS2 p rfl (by first | exact hbad'.out | (exfalso; revert h; decide))) hg hg2)
          simp only [hbad]
          clear hS2
          go_wp2_with (go_at_call 65; refine (JN.out S hS _).mono ?_; rintro e w3 ⟨rfl, rfl⟩)
          simpa using X.out
    · rw [toldFrom_nil] at hm
      cases W
      · go_wp2_with fail
        go_ret2
        exact ⟨by rw [← hm]; rfl, hb⟩
      · go_wp2_with fail
        go_ret2
        exact ⟨by rw [← hm]; rfl, hb⟩
end Go.Proofs.YtikdhfedidknpaaDoor.Mask
