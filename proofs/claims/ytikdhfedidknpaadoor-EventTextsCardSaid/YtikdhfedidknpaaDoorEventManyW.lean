/- The law EventMany, walked. Conditions: the listed variables hold what they are listed with; numbers are of their kinds. -/
import Derived.Test.YtikdhfedidknpaaDoorEventJoinsW
namespace Go.Proofs.YtikdhfedidknpaaDoor.Event
open Go.ChangeShapes Go.WideShapes Go.ChangeAt Go.RowKit
open Mem (box_fresh owns_fresh)
set_option linter.unusedVariables false
set_option linter.unusedSimpArgs false
set_option maxRecDepth 100000

theorem parse_over (l : List Ev) (hl : ∀ e ∈ l, e.Ok ∧ may e = true) (h : 1000 < l.length) : parseP MK (linesT MK l) = ([], 0, 3) := by
  rw [parse_lines]
  have hs := lines_spl good hl
  have hp : (linesP (linesT MK l)).1 = l.map (lineT MK) := by
    unfold linesP
    simp [hs]
  rw [hp, if_pos (by simpa using h)]
def oneE (k a : Int) : Ev := ⟨k, a, 0, 0, 0, 0⟩
theorem one_may (k a : Int) (h1 : 7 ≤ k) (h2 : k ≤ 10) (ha : 0 ≤ a) : may (oneE k a) = true := by
  have hf : form k = [97] := by unfold form; rw [if_neg (by omega), if_neg (by omega), if_neg (by omega), if_neg (by omega), if_neg (by omega)]
  unfold may oneE
  simp [hf]
  omega
theorem one_ok (k a : Int) (h1 : 7 ≤ k) (h2 : k ≤ 10) (ha : 0 ≤ a) (hb : a ≤ 255) : (oneE k a).Ok := by
  unfold oneE
  exact ⟨⟨by simp only; omega, by simp only; omega⟩, ⟨by simp only; omega, by simp only; omega⟩, ⟨by simp only; omega, by simp only; omega⟩, ⟨by simp only; omega, by simp only; omega⟩, ⟨by simp only; omega, by simp only; omega⟩, by simp only; omega⟩
theorem rep_ok (k a : Int) (h1 : 7 ≤ k) (h2 : k ≤ 10) (ha : 0 ≤ a) (hb : a ≤ 255) (n : Nat) : ∀ e ∈ List.replicate n (oneE k a), e.Ok ∧ may e = true := by
  intro e he
  have := List.eq_of_mem_replicate he
  subst this
  exact ⟨one_ok k a h1 h2 ha hb, one_may k a h1 h2 ha⟩
theorem rep_text (k a : Int) (h1 : 7 ≤ k) (h2 : k ≤ 10) (ha : 0 ≤ a) (hb : a ≤ 255) (n : Nat) : textP MK (List.replicate n (oneE k a)) = if 1000 < n then ([], 3) else (linesT MK (List.replicate n (oneE k a)), 0) := by
  unfold textP
  rw [if_pos (List.all_eq_true.2 (fun e he => (rep_ok k a h1 h2 ha hb n e he).2)), List.length_replicate]
theorem rep_snoc (x : Ev) (n : Nat) : List.replicate n x ++ [x] = List.replicate (n + 1) x := by rw [List.replicate_succ']
def rep (k a : Int) (n : Nat) : List Ev := List.replicate n (oneE k a)
theorem rep_len (k a : Int) (n : Nat) : (rep k a n).length = n := List.length_replicate
theorem rep_evs (k a : Int) (n : Nat) : evsC (rep k a (n + 1)) = evsC (rep k a n) ++ [.int .i64 k, .int .i64 a, .int .i64 0, .int .i64 0, .int .i64 0, .int .u64 0] := by
  unfold rep
  rw [← rep_snoc, evsC_snoc]
  rfl
theorem raw_own {B n : Nat} {v : Value} {k a : Int} {w : World} (h : w.ownsRow B 33 6 v n (evsC (rep k a n))) : Own B v (rep k a n) w := by
  unfold Own
  rw [rep_len]
  exact h
theorem evs_take {a : Option Addr} {l : List Ev} {w : World} (h : Evs a l w) (k : Nat) : Evs a (l.take k) w := fun j e he => h j e (by
  rw [List.getElem?_take] at he
  split at he
  · exact he
  · cases he)
theorem rep_take (k a : Int) (n m : Nat) (h : n ≤ m) : (rep k a m).take n = rep k a n := by
  unfold rep
  rw [List.take_replicate, Nat.min_eq_left h]
theorem rep_lines (k a : Int) (n : Nat) : linesT MK (rep k a n) ++ linesT MK (rep k a 1) = linesT MK (rep k a (n + 1)) := by
  unfold rep
  rw [show List.replicate 1 (oneE k a) = [oneE k a] from rfl, ← linesT_append, rep_snoc]
def MyI (k a : Int) (ob B : Nat) (w : World) (v t : Value) (wr : World) : Prop := ∃ i : Nat, i ≤ 1000 ∧ t = .int .i64 i ∧ wr.ownsRow B 33 6 v i (evsC (rep k a i)) ∧ EvB wr ob (oneE k a) ∧ Below w.heap.size w wr ∧ B ≤ wr.heap.size
set_option maxHeartbeats 4000000 in
theorem many_ (kd a : Int) (hk : 0 ≤ kd ∧ kd ≤ 255) (ha : 0 ≤ a ∧ a ≤ 255) (w : World) (hT : Tab w) : Calls Tryd.prog 8 #[.int .u8 kd, .int .u8 a] w (IsYes w) := by
  have S0 := Lib.hid (fun (w : World) (hT : Tab w) => shown w hT)
  have T0 := Lib.hid (fun (W : World) (h : Below w.heap.size w W) => hT.fresh h)
  obtain ⟨i0, hi, hz0, hz1, hz2⟩ := Mem.info_parts infoE
  obtain ⟨ha1, ha2⟩ := ha
  obtain ⟨hk1, hk2⟩ := hk
  go_enter Tryd.func8, Tryd.ntmps8
  go_upto_region 4 with (go_at_call 9; refine (S0.out _ hT).mono ?_; rintro e w1 ⟨rfl, hg⟩; replace hT := hT.fresh hg)
  obtain ⟨K, hK⟩ : ∃ K, 7 + kd % 4 = K := ⟨_, rfl⟩
  have hK1 : 7 ≤ K := by omega
  have hK2 : K ≤ 10 := by omega
  rw [hK]
  clear hK
  have hb : EvB (w1.alloc (.cells (evC (oneE K a)) 33)) w1.heap.size (oneE K a) := new_ev w1 _
  have hg1 := hg.alloc hg.size (.cells (evC (oneE K a)) 33)
  have hsz : (w1.alloc (.cells (evC (oneE K a)) 33)).heap.size = w1.heap.size + 1 := by simp
  have hT1 := hT.fresh (Mem.alloc1 w1 (.cells (evC (oneE K a)) 33))
  unfold evC oneE at hb hg1 hsz hT1
  simp only at hb hg1 hsz hT1
  obtain ⟨ob, hob⟩ : ∃ ob, w1.heap.size = ob := ⟨_, rfl⟩
  rw [hob] at hsz hb ⊢
  have hwB : w.heap.size ≤ ob := by rw [← hob]; exact hg.size
  clear hob hT
  rw [show ((0 : Nat) : Int) = 0 from rfl] at hb hg1 hsz hT1
  generalize w1.alloc _ = W at *
  have st : Hid (MyI K a ob W.heap.size w (.slice none 0 0) (.int .i64 0) W) := Lib.hid ⟨0, by omega, rfl, ⟨rfl, .inl ⟨rfl, rfl⟩⟩, hb, hg1, Nat.le_refl _⟩
  have hobW : ob < W.heap.size := by omega
  generalize W.heap.size = B at *
  clear hb hsz
  go_wp2_with fail
  clear hT1
  go_loopw [8, 9] (fun v t wr => MyI K a ob B w v t wr) (fun _ t _ => 1000 - (intOf t).toNat)
  case atStart => exact st.out
  case round =>
    clear st hg1 hg
    obtain ⟨i, hi1, rfl, hO, hE, hg, hB⟩ := hrel
    by_cases hlt : i < 1000
    · have hlt' : (i : Int) < 1000 := by omega
      obtain ⟨va, vc, hva⟩ := Mem.owns_shape hO
      subst hva
      obtain ⟨x0, x1, x2, x3, x4, x5, xz⟩ := EvB.six hE
      unfold oneE at x0 x1 x2 x3 x4 x5
      simp only [show ((0 : Nat) : Int) = 0 from rfl] at x0 x1 x2 x3 x4 x5
      have hO3 := hO.alloc (.cells #[.int .i64 K, .int .i64 a, .int .i64 0, .int .i64 0, .int .i64 0, .int .u64 0] 33)
      have HE := Lib.hid (Mem.box_new (o' := (.cells #[.int .i64 K, .int .i64 a, .int .i64 0, .int .i64 0, .int .i64 0, .int .u64 0] 33)) hE)
      have hgA := hg.alloc hg.size (.cells #[.int .i64 K, .int .i64 a, .int .i64 0, .int .i64 0, .int .i64 0, .int .u64 0] 33)
      have hBA : B ≤ (wr.alloc (.cells #[.int .i64 K, .int .i64 a, .int .i64 0, .int .i64 0, .int .i64 0, .int .u64 0] 33)).heap.size := by simp; omega
      have hnew : (wr.alloc (.cells #[.int .i64 K, .int .i64 a, .int .i64 0, .int .i64 0, .int .i64 0, .int .u64 0] 33)).heap[wr.heap.size]? = some (.cells #[.int .i64 K, .int .i64 a, .int .i64 0, .int .i64 0, .int .i64 0, .int .u64 0] 33) := heap_alloc_new wr (.cells #[.int .i64 K, .int .i64 a, .int .i64 0, .int .i64 0, .int .i64 0, .int .u64 0] 33)
      clear hE hg hO
      go_wp2_with (at_builtin; refine wpList_append_own _ rfl (.tmp 35) (.tmp 37) 23 rfl B 33 i0 _ 6 48 Tryd.underlying23 hi hz0 hz1 hz2 rfl (by decide) _ _ _ rfl hO3 ⟨wr.heap.size, 0, none⟩ 1 1 [.int .i64 K, .int .i64 a, .int .i64 0, .int .i64 0, .int .i64 0, .int .u64 0] rfl rfl (World.news_of_block hnew) (by simp [Value.oneCell']) (by simp only [maxLen]; omega) (by omega) hBA ?_; intro v' w4 hown4 hgrow4 _)
      go_roundw
      case rel =>
        refine ⟨i + 1, by omega, by go_num, ?_, Mem.box_kept HE.out hgrow4 (fun h => by have := (hO3.lt ob h).1; omega), hgA.grown hgrow4 hgA.size (fun k hk => by have := (hO3.lt k hk).1; omega), Nat.le_trans hBA hgrow4.size⟩
        rw [rep_evs]
        exact hown4
      case measure => simp [intOf]; omega
    · obtain rfl : i = 1000 := by omega
      have hT1 := T0.out _ hg
      obtain ⟨g, c, hva, hBg, hgl⟩ := hO.form (by omega)
      subst hva
      have hcap : (1 : Int) ≤ (c : Int) := by
        rcases hO.2 with ⟨e1, _⟩ | ⟨_, _, _, e1, _, _, h1, _⟩
        · cases e1
        · cases e1; omega
      have rok : ∀ n, ∀ e ∈ rep K a n, e.Ok ∧ may e = true := fun n => rep_ok K a hK1 hK2 ha1 ha2 n
      have rtx := fun n => rep_text K a hK1 hK2 ha1 ha2 n
      have l1 := lines_len (rep K a 1000) (rok 1000)
      have l2 := lines_len (rep K a 1) (rok 1)
      rw [rep_len] at l1 l2
      have TX1 := Lib.hid (fun (w : World) (hT : Tab w) (hV : Evs (some ⟨g, 0, none⟩) (rep K a 1000) w) => text_ (some ⟨g, 0, none⟩) (rep K a 1000) c w hT hV (fun e he => (rok 1000 e he).1) (by rw [rep_len]; omega))
      have e1000 : textP MK (rep K a 1000) = (linesT MK (rep K a 1000), 0) := rtx 1000
      rw [e1000, rep_len] at TX1
      have TX2 := Lib.hid (fun (w : World) (hT : Tab w) (hV : Evs (some ⟨g, 0, none⟩) (rep K a 1000) w) => text_ (some ⟨g, 0, none⟩) (rep K a 1) c w hT (by rw [← rep_take K a 1 1000 (by omega)]; exact evs_take hV 1) (fun e he => (rok 1 e he).1) (by rw [rep_len]; omega))
      have e1 : textP MK (rep K a 1) = (linesT MK (rep K a 1), 0) := rtx 1
      rw [e1, rep_len] at TX2
      have TX3 := Lib.hid (fun (w : World) (hT : Tab w) (va : Option Addr) (c : Nat) (hV : Evs va (rep K a 1001) w) => text_ va (rep K a 1001) c w hT hV (fun e he => (rok 1001 e he).1) (by rw [rep_len]; omega))
      have e1001 : textP MK (rep K a 1001) = ([], 3) := rtx 1001
      rw [e1001, rep_len] at TX3
      have P1 := Lib.hid (fun (w : World) (hT : Tab w) => parse_ (linesT MK (rep K a 1000)) (by omega) w hT)
      rw [text_back good (rok 1000) (by rw [rep_len]; omega)] at P1
      have P2 := Lib.hid (fun (w : World) (hT : Tab w) => parse_ (linesT MK (rep K a 1001)) (by rw [← rep_lines]; simp; omega) w hT)
      rw [parse_over (rep K a 1001) (rok 1001) (by rw [rep_len]; omega)] at P2
      have c2 : ∀ w, (Op.stringOp .add (str (linesT MK (rep K a 1000))) (str (linesT MK (rep K a 1)))).run Tryd.prog w = .ok (.string (str (linesT MK (rep K a 1001)))) w := fun w => by
        rw [← rep_lines K a 1000]
        exact str_add _ _ (by omega) w
      unfold IsTexted at TX1 TX2 TX3
      simp only at TX1 TX2 TX3
      have HR := Lib.hid (rep_len K a 1000)
      have HV := Lib.hid (raw_own hO).evs.1
      have HO := Lib.hid hO
      have HE := Lib.hid hE
      clear hO hE rok rtx e1 e1000 e1001 l1 l2 hT1
      generalize str (linesT MK (rep K a 1000)) = s1 at *
      generalize str (linesT MK (rep K a 1)) = s2 at *
      generalize str (linesT MK (rep K a 1001)) = s3 at *
      generalize str [] = s0 at *
      have CH := Lib.hid (fun (W1 W2 : World) (h : Below W1.heap.size W1 W2) => h)
      have hx1 := Below.refl wr.heap.size wr
      have hT1 := T0.out _ hg
      go_upto_region 13 with (first
        | (go_at_call 13; (with_reducible refine (TX1.out _ (T0.out _ (hg.trans (hx1.mono hg.size))) (HV.out.fresh hx1)).mono ?_); rintro e w5 ⟨rfl, h1⟩; replace hx1 := hx1.trans (h1.mono hx1.size); clear h1)
        | (go_at_call 13; (with_reducible refine (TX2.out _ (T0.out _ (hg.trans (hx1.mono hg.size))) (HV.out.fresh hx1)).mono ?_); rintro e w5 ⟨rfl, h1⟩; replace hx1 := hx1.trans (h1.mono hx1.size); clear h1)
        | (go_at_call 10; (with_reducible refine (P1.out _ (T0.out _ (hg.trans (hx1.mono hg.size)))).mono ?_); rintro e w5 ⟨vp, rfl, hOp, h1⟩; replace hx1 := hx1.trans (h1.mono hx1.size); clear h1; obtain ⟨vpa, vpc, rfl⟩ := hOp.shape; clear hOp; rw [HR.out])
        | (go_at_call 10; (with_reducible refine (P2.out _ (T0.out _ (hg.trans (hx1.mono hg.size)))).mono ?_); rintro e w5 ⟨vq, rfl, hOq, h1⟩; replace hx1 := hx1.trans (h1.mono hx1.size); clear h1 hOq))
      have hgB := hg.trans (hx1.mono hg.size)
      have hB5 : B ≤ w5.heap.size := Nat.le_trans hB hx1.size
      have hO5 := owns_fresh HO.out hx1
      obtain ⟨x0, x1, x2, x3, x4, x5, xz⟩ := EvB.six (EvB.fresh HE.out hx1)
      unfold oneE at x0 x1 x2 x3 x4 x5
      simp only [show ((0 : Nat) : Int) = 0 from rfl] at x0 x1 x2 x3 x4 x5
      have hO3 := hO5.alloc (.cells #[.int .i64 K, .int .i64 a, .int .i64 0, .int .i64 0, .int .i64 0, .int .u64 0] 33)
      have hgA := hgB.alloc hgB.size (.cells #[.int .i64 K, .int .i64 a, .int .i64 0, .int .i64 0, .int .i64 0, .int .u64 0] 33)
      have hBA : B ≤ (w5.alloc (.cells #[.int .i64 K, .int .i64 a, .int .i64 0, .int .i64 0, .int .i64 0, .int .u64 0] 33)).heap.size := by simp; omega
      have hnew : (w5.alloc (.cells #[.int .i64 K, .int .i64 a, .int .i64 0, .int .i64 0, .int .i64 0, .int .u64 0] 33)).heap[w5.heap.size]? = some (.cells #[.int .i64 K, .int .i64 a, .int .i64 0, .int .i64 0, .int .i64 0, .int .u64 0] 33) := heap_alloc_new w5 (.cells #[.int .i64 K, .int .i64 a, .int .i64 0, .int .i64 0, .int .i64 0, .int .u64 0] 33)
      have hwB2 : w.heap.size ≤ B := by omega
      have R1 := Lib.hid (rep_evs K a 1000)
      clear hO5 TX1 TX2 P1 P2 HV HO HE hgB
      go_wp2_with (first
        | (at_builtin; refine wpList_append_own _ rfl (.tmp 64) (.tmp 66) 23 rfl B 33 i0 _ 6 48 Tryd.underlying23 hi hz0 hz1 hz2 rfl (by decide) _ _ _ rfl hO3 ⟨w5.heap.size, 0, none⟩ 1 1 [.int .i64 K, .int .i64 a, .int .i64 0, .int .i64 0, .int .i64 0, .int .u64 0] rfl rfl (World.news_of_block hnew) (by simp [Value.oneCell']) (by simp only [maxLen]; omega) (by omega) hBA ?_; intro v' w6 hown4 hgrow4 _; have hg6 := hgA.grown hgrow4 hgA.size (fun k hk => by have := (hO3.lt k hk).1; omega); rw [← R1.out] at hown4; obtain ⟨vb, vd, hvb⟩ := Mem.owns_shape hown4; subst hvb; have HV6 := Lib.hid (raw_own hown4).evs.1)
        | (go_at_call 13; (with_reducible refine (TX3.out _ (T0.out _ hg6) _ _ HV6.out).mono ?_); rintro e w7 ⟨rfl, h1⟩; replace hg6 := hg6.trans (h1.mono hg6.size); clear h1))
      go_ret
      exact ⟨rfl, hg6⟩
end Go.Proofs.YtikdhfedidknpaaDoor.Event
