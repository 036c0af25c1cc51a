/- The law MaskJoins, walked. Conditions: each text is of at most 2^47 - 4096 bytes; the listed table holds what it is listed with. -/
import Derived.Test.YtmeojplfphmpnaaDoorMaskLaws
import Derived.Test.YtmeojplfphmpnaaDoorMaskSplit
import Derived.Laws.Concat
namespace Go.Proofs.YtmeojplfphmpnaaDoor.Mask
open Go.ChangeShapes Go.WideShapes Go.ChangeAt Go.RowKit
set_option linter.unusedVariables false
set_option linter.unusedSimpArgs false
set_option maxRecDepth 100000

theorem parts_nil : parts [] = none := by decide

theorem rd_ok {t t' : R} : ∀ {l : List UInt8}, t.Ok → rd t l = some t' → t'.Ok
  | [], h, e => by cases e; exact h
  | c :: l, h, e => by
    simp only [rd] at e
    cases ht : t.take c.toNat with
    | none => rw [ht] at e; cases e
    | some t1 => rw [ht] at e; exact rd_ok (R.take_ok h ht) e
theorem parse_lt (l : List UInt8) : (parse l).1 < 18446744073709551616 := by
  unfold parse shut
  split
  · decide
  · cases hr : rd R.nil l with
    | none => decide
    | some t =>
      cases he : t.end with
      | none => simp [he]
      | some t' =>
        simp only [Option.bind_some, he]
        split
        · decide
        · exact (R.end_ok (rd_ok R.nil_ok hr) he).set
theorem told_err (o : Option (List (Nat × Nat))) : (told o).2 = 0 ∨ (told o).2 = 1 ∨ (told o).2 = 11 := by
  unfold told
  cases o with
  | none => simp
  | some ps => simp only; split <;> simp
theorem parse_err (l : List UInt8) : (parse l).2 = 0 ∨ (parse l).2 = 1 ∨ (parse l).2 = 11 := by
  by_cases h : l = []
  · subst h; exact .inl rfl
  · rw [parse_parts l h]; exact told_err _

theorem told_ok {o : Option (List (Nat × Nat))} (h : (told o).2 = 0) : ∃ ps, o = some ps ∧ (joinP (0, false) ps).2 = false ∧ (told o).1 = (joinP (0, false) ps).1 := by
  unfold told at *
  cases o with
  | none => simp at h
  | some ps =>
    simp only at *
    refine ⟨ps, rfl, ?_⟩
    by_cases hw : (joinP (0, false) ps).2 = true
    · rw [if_pos hw] at h; cases h
    · rw [if_neg hw]; exact ⟨by simpa using hw, rfl⟩

theorem joined (a b : List UInt8) : (parse (a ++ 44 :: b)).2 = 0 → a ≠ [] ∧ b ≠ [] ∧ (parse a).2 = 0 ∧ (parse b).2 = 0 ∧ (parse (a ++ 44 :: b)).1 = (parse a).1 ||| (parse b).1 := by
  rw [parts_comma]
  intro h
  obtain ⟨rs, h1, h2, h3⟩ := told_ok h
  rw [h3]
  cases ha : parts a with
  | none => rw [ha] at h1; cases h1
  | some ps =>
    rw [ha] at h1
    cases hb : parts b with
    | none => rw [hb] at h1; cases h1
    | some qs =>
      rw [hb] at h1
      simp only [Option.map_some, Option.bind_some, Option.some.injEq] at h1
      subst h1
      have hna : a ≠ [] := by rintro rfl; rw [parts_nil] at ha; cases ha
      have hnb : b ≠ [] := by rintro rfl; rw [parts_nil] at hb; cases hb
      have e : joinP (0, false) (ps ++ qs) = joinP ((joinP (0, false) ps).1, (joinP (0, false) ps).2) qs := by simp [joinP, List.foldl_append]
      rw [e, joinP_frame] at h2
      rw [e, joinP_frame]
      have h4 : (joinP (0, false) ps).2 = false ∧ (joinP (0, false) qs).2 = false := by simpa using h2
      rw [parse_parts a hna, parse_parts b hnb, ha, hb]
      simp [told, h4.1, h4.2, hna, hnb]
theorem joined_ok (a b : List UInt8) (ha : a ≠ []) (hb : b ≠ []) (h1 : (parse a).2 = 0) (h2 : (parse b).2 = 0) : (parse (a ++ 44 :: b)).2 = 0 := by
  rw [parse_parts a ha] at h1
  rw [parse_parts b hb] at h2
  obtain ⟨ps, e1, w1, _⟩ := told_ok h1
  obtain ⟨qs, e2, w2, _⟩ := told_ok h2
  rw [parts_comma, e1, e2]
  have e : joinP (0, false) (ps ++ qs) = joinP ((joinP (0, false) ps).1, (joinP (0, false) ps).2) qs := by simp [joinP, List.foldl_append]
  simp only [Option.map_some, Option.bind_some, told]
  rw [e, joinP_frame]
  simp [w1, w2]

def Pd (m e : Int) (w : World) (en : Ending) (w' : World) : Prop := en = .returned (.tuple #[.int .u64 m, .int .i64 e]) ∧ Below w.heap.size w w'

theorem comma_data (a b : ByteArray) : (a ++ (⟨#[44]⟩ : ByteArray) ++ b).data.toList = a.data.toList ++ 44 :: b.data.toList := by
  simp

theorem joins_as (sa sb sx sy : ByteArray) (m n x y e f g h o : Int) (ea eb : Bool) (w : World) (hT : Tab w)
    (hx : ∀ w, (Op.stringOp .add sa ⟨#[44]⟩).run Tryd.prog w = .ok (.string (sa ++ ⟨#[44]⟩)) w) (hx2 : ∀ w, (Op.stringOp .add (sa ++ ⟨#[44]⟩) sb).run Tryd.prog w = .ok (.string sx) w)
    (hy : ∀ w, (Op.stringOp .add sb ⟨#[44]⟩).run Tryd.prog w = .ok (.string (sb ++ ⟨#[44]⟩)) w) (hy2 : ∀ w, (Op.stringOp .add (sb ++ ⟨#[44]⟩) sa).run Tryd.prog w = .ok (.string sy) w)
    (hA : sa.toList.isEmpty = ea) (hB : sb.toList.isEmpty = eb) (hor : bits .or .u64 m n = o)
    (PA : Hid (∀ w, Calls Tryd.prog 11 #[.string sa] w (Pd m e w))) (PB : Hid (∀ w, Calls Tryd.prog 11 #[.string sb] w (Pd n f w)))
    (PX : Hid (∀ w, Calls Tryd.prog 11 #[.string sx] w (Pd x g w))) (PY : Hid (∀ w, Calls Tryd.prog 11 #[.string sy] w (Pd y h w)))
    (K : (e = 0 ∧ f = 0 ∧ ea = false ∧ eb = false ∧ g = 0 ∧ h = 0 ∧ x = y ∧ x = o) ∨ ((e ≠ 0 ∨ f ≠ 0 ∨ ea = true ∨ eb = true) ∧ g ≠ 0 ∧ h ≠ 0)) :
    Calls Tryd.prog 7 #[.string sa, .string sb] w (IsYes w) := by
  have A0 := Lib.hid (fun (w : World) (h : Tab w) => awake w h)
  have hg := Below.refl w.heap.size w
  rcases K with ⟨rfl, rfl, rfl, rfl, rfl, rfl, rfl, rfl⟩ | ⟨k1, k2, k3⟩
  · go_enter Tryd.func7, Tryd.ntmps7
    go_wp2_with (go_at_call 10; refine (A0.out _ (hT.fresh hg)).mono ?_; rintro e w1 ⟨rfl, hg1⟩; replace hg := fresh_trans hg hg1; clear hg1)
    refine (PA.out _).mono ?_; rintro e w1 ⟨rfl, hg1⟩; replace hg := fresh_trans hg hg1; clear hg1
    go_wp2_with fail
    refine (PB.out _).mono ?_; rintro e w1 ⟨rfl, hg1⟩; replace hg := fresh_trans hg hg1; clear hg1
    go_wp2_with fail
    refine (PX.out _).mono ?_; rintro e w1 ⟨rfl, hg1⟩; replace hg := fresh_trans hg hg1; clear hg1
    go_wp2_with fail
    refine (PY.out _).mono ?_; rintro e w1 ⟨rfl, hg1⟩; replace hg := fresh_trans hg hg1; clear hg1
    go_wp2_with fail
    go_ret
    exact ⟨by simp, hg⟩
  · have k2' : (g == 0) = false := by simpa using k2
    have k3' : (h == 0) = false := by simpa using k3
    have k2n : (g != 0) = true := by simpa using k2
    have k3n : (h != 0) = true := by simpa using k3
    have K1 : ((e != 0) = true) ∨ (e = 0 ∧ (f != 0) = true) ∨ (e = 0 ∧ f = 0 ∧ ea = true) ∨ (e = 0 ∧ f = 0 ∧ ea = false ∧ eb = true) := by
      by_cases h1 : e = 0 <;> by_cases h2 : f = 0 <;> cases ea <;> cases eb <;> simp_all
    clear k1 k2 k3
    rcases K1 with h1 | ⟨rfl, h1⟩ | ⟨rfl, rfl, rfl⟩ | ⟨rfl, rfl, rfl, rfl⟩
    all_goals
      go_enter Tryd.func7, Tryd.ntmps7
      go_wp2_with (go_at_call 10; refine (A0.out _ (hT.fresh hg)).mono ?_; rintro e w1 ⟨rfl, hg1⟩; replace hg := fresh_trans hg hg1; clear hg1)
      refine (PA.out _).mono ?_; rintro e w1 ⟨rfl, hg1⟩; replace hg := fresh_trans hg hg1; clear hg1
      go_wp2_with fail
      refine (PB.out _).mono ?_; rintro e w1 ⟨rfl, hg1⟩; replace hg := fresh_trans hg hg1; clear hg1
      go_wp2_with fail
      refine (PX.out _).mono ?_; rintro e w1 ⟨rfl, hg1⟩; replace hg := fresh_trans hg hg1; clear hg1
      go_wp2_with fail
      refine (PY.out _).mono ?_; rintro e w1 ⟨rfl, hg1⟩; replace hg := fresh_trans hg hg1; clear hg1
      go_wp2_with fail
      go_ret
      exact ⟨by simp, hg⟩

theorem pd_of (s : ByteArray) : Hid (∀ w, Calls Tryd.prog 11 #[.string s] w (Pd ((parse s.data.toList).1 : Int) (parse s.data.toList).2 w)) := Lib.hid (fun w => Parse s s.data.toList rfl w)

theorem joins (sa sb : ByteArray) (ha : sa.data.toList.length ≤ reachBytes) (hb : sb.data.toList.length ≤ reachBytes) (w : World) (hT : Tab w) : Calls Tryd.prog 7 #[.string sa, .string sb] w (IsYes w) := by
  have hR : reachBytes = 140737488351232 := rfl
  have za : sa.size ≤ 140737488351232 := by rw [hR] at ha; simpa using ha
  have zb : sb.size ≤ 140737488351232 := by rw [hR] at hb; simpa using hb
  have z1 : (sa ++ (⟨#[44]⟩ : ByteArray)).size = sa.size + 1 := by rw [ByteArray.size_append]; rfl
  have z2 : (sb ++ (⟨#[44]⟩ : ByteArray)).size = sb.size + 1 := by rw [ByteArray.size_append]; rfl
  have z3 : (⟨#[44]⟩ : ByteArray).size = 1 := rfl
  have X := comma_data sa sb
  have Y := comma_data sb sa
  refine joins_as sa sb (sa ++ ⟨#[44]⟩ ++ sb) (sb ++ ⟨#[44]⟩ ++ sa) ((parse sa.data.toList).1 : Int) ((parse sb.data.toList).1 : Int) ((parse (sa ++ (⟨#[44]⟩ : ByteArray) ++ sb).data.toList).1 : Int) ((parse (sb ++ (⟨#[44]⟩ : ByteArray) ++ sa).data.toList).1 : Int) (parse sa.data.toList).2 (parse sb.data.toList).2 (parse (sa ++ (⟨#[44]⟩ : ByteArray) ++ sb).data.toList).2 (parse (sb ++ (⟨#[44]⟩ : ByteArray) ++ sa).data.toList).2 (bits .or .u64 ((parse sa.data.toList).1 : Int) ((parse sb.data.toList).1 : Int)) sa.toList.isEmpty sb.toList.isEmpty w hT (fun w => run_string_add_sum w _ _ (by omega)) (fun w => run_string_add_sum w _ _ (by omega)) (fun w => run_string_add_sum w _ _ (by omega)) (fun w => run_string_add_sum w _ _ (by omega)) rfl rfl rfl
    (pd_of sa) (pd_of sb) (pd_of _) (pd_of _) ?_
  rw [X, Y, str_toList, str_toList]
  generalize sa.data.toList = a at *
  generalize sb.data.toList = b at *
  rw [bits_or_u64_nat _ _ (parse_lt a) (parse_lt b)]
  by_cases k : a ≠ [] ∧ b ≠ [] ∧ (parse a).2 = 0 ∧ (parse b).2 = 0
  · obtain ⟨k1, k2, k3, k4⟩ := k
    have j1 := joined_ok a b k1 k2 k3 k4
    have j2 := joined_ok b a k2 k1 k4 k3
    obtain ⟨_, _, _, _, j3⟩ := joined a b j1
    obtain ⟨_, _, _, _, j4⟩ := joined b a j2
    refine .inl ⟨k3, k4, by simpa using k1, by simpa using k2, j1, j2, ?_, by rw [j3]⟩
    rw [j3, j4, Nat.or_comm]
  · refine .inr ⟨?_, fun h => k ?_, fun h => k ?_⟩
    · by_cases h1 : (parse a).2 = 0
      · by_cases h2 : (parse b).2 = 0
        · by_cases h3 : a = []
          · exact .inr (.inr (.inl (by simpa using h3)))
          · by_cases h4 : b = []
            · exact .inr (.inr (.inr (by simpa using h4)))
            · exact absurd ⟨h3, h4, h1, h2⟩ k
        · exact .inr (.inl h2)
      · exact .inl h1
    · obtain ⟨j1, j2, j3, j4, _⟩ := joined a b h
      exact ⟨j1, j2, j3, j4⟩
    · obtain ⟨j1, j2, j3, j4, _⟩ := joined b a h
      exact ⟨j2, j1, j4, j3⟩
end Go.Proofs.YtmeojplfphmpnaaDoor.Mask
