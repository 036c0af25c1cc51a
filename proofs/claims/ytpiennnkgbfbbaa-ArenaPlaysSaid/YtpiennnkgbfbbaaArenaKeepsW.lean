/- The walk of ArenaKeeps. Conditions: each argument is a number of its kind. -/
import Derived.Test.YtpiennnkgbfbbaaArenaLastW
namespace Go.Proofs.Ytpiennnkgbfbbaa.Arena
open Go.ChangeShapes Go.WideShapes Go.ChangeAt Go.RowKit
set_option linter.unusedVariables false
set_option linter.unusedSimpArgs false

/-- k places, with z's things in them; their handles. -/
def G (z : Nat → Int) (k : Nat) : List Pl := (List.range k).map fun i => (⟨z i, true, 0⟩ : Pl)
def T (k : Nat) : List (Int × Int) := (List.range k).map fun (i : Nat) => ((i : Int), (0 : Int))
theorem G_length (z : Nat → Int) (k : Nat) : (G z k).length = k := by simp [G]
theorem G_succ (z : Nat → Int) (k : Nat) : G z (k + 1) = G z k ++ [⟨z k, true, 0⟩] := by simp [G, List.range_succ]
theorem G_get {z : Nat → Int} {k i : Nat} (h : i < k) : (G z k)[i]? = some ⟨z i, true, 0⟩ := by simp [G, h]
theorem G_cnt (z : Nat → Int) (k : Nat) : cnt (G z k) = k := by
  induction k with
  | zero => simp [G, cnt]
  | succ k ih => rw [G_succ, cnt_append, ih]; simp [cnt]
theorem T_length (k : Nat) : (T k).length = k := by simp [T]
theorem T_succ (k : Nat) : T (k + 1) = T k ++ [((k : Int), 0)] := by simp [T, List.range_succ]
theorem put_G {z : Nat → Int} {k : Nat} {r : Int} (h : (k : Int) < r) : (⟨r, G z k, []⟩ : St).put (z k) = ⟨⟨r, G z (k + 1), []⟩, k, 0, 0⟩ := by
  simp [St.put, G_length, h, G_succ]
theorem cellsH_at {l : List (Int × Int)} {i : Nat} {p : Int × Int} (h : l[i]? = some p) : (cellsH l)[i * 2]? = some (.int .i64 p.1) ∧ (cellsH l)[i * 2 + 1]? = some (.int .i64 p.2) := by
  induction l generalizing i with
  | nil => simp at h
  | cons q l ih =>
    cases i with
    | zero => simp at h; subst h; simp [cellsH]
    | succ i =>
      simp at h
      obtain ⟨h1, h2⟩ := ih h
      rw [show (i + 1) * 2 = i * 2 + 2 by omega]
      simp only [cellsH, List.flatMap_cons] at h1 h2 ⊢
      exact ⟨by simpa using h1, by simpa using h2⟩
theorem cellsH_length (l : List (Int × Int)) : (cellsH l).length = l.length * 2 := by
  induction l with
  | nil => rfl
  | cons q l ih => simp only [cellsH, List.flatMap_cons] at ih ⊢; simp [ih]; omega
/-- A slice of handles: the cells of one of them. -/
theorem told_cell {w : World} {B : Nat} {v : Value} {l : List (Int × Int)} {i : Nat} {p : Int × Int} {e : TypeId} (h : w.ownsRow B e 2 v l.length (cellsH l)) (hp : l[i]? = some p) :
    ∃ g c, v = .slice (some ⟨g, 0, none⟩) l.length c ∧ w.cell? ⟨g, i * 2, none⟩ = some (.int .i64 p.1) ∧ w.cell? ⟨g, i * 2 + 1, none⟩ = some (.int .i64 p.2) := by
  have hi : i < l.length := (List.getElem?_eq_some_iff.1 hp).1
  obtain ⟨g, c, rfl, _⟩ := h.form (by omega)
  obtain ⟨h1, h2⟩ := cellsH_at hp
  exact ⟨g, c, rfl, by rw [h.cellAt _ (by omega), h1], by rw [h.cellAt _ (by omega), h2]⟩
theorem T_get {k i : Nat} (h : i < k) : (T k)[i]? = some ((i : Int), 0) := by simp [T, h]

section
variable {z : Nat → Int} {n j i : Nat} {x : Int}
def S0 (z : Nat → Int) (n : Nat) : St := ⟨64, G z n, []⟩
def S1 (z : Nat → Int) (n j : Nat) (x : Int) : St := ⟨64, (G z n).set j ⟨x, true, 0⟩, []⟩
def S2 (z : Nat → Int) (n j : Nat) : St := ⟨64, (G z n).set j ⟨0, false, 1⟩, [j]⟩
theorem s0_set (h : j < n) : (S0 z n).err j 0 = 0 ∧ (S0 z n).set j 0 x = S1 z n j x := by
  have hn : (S0 z n).names j 0 = true := by simp [S0, St.names, St.at, G_get h]
  exact ⟨by simp [St.err, hn], by simp [St.set, hn]; simp [S0, S1]⟩
theorem s1_names (h : j < n) : (S1 z n j x).names j 0 = true := by simp [S1, St.names, St.at, List.getElem?_set, G_length, h]
theorem s1_get (h : j < n) : (S1 z n j x).thing j 0 = x ∧ (S1 z n j x).err j 0 = 0 := by
  refine ⟨?_, by simp [St.err, s1_names h]⟩
  simp only [St.thing, s1_names h, if_true]
  simp [S1, St.at, List.getElem?_set, G_length, h]
theorem s1_free (h : j < n) : (S1 z n j x).free j 0 = S2 z n j := by
  simp only [St.free, s1_names h, if_true]
  simp [S1, S2]
theorem s2_same (h : j < n) : (S2 z n j).thing j 0 = 0 ∧ (S2 z n j).err j 0 = 2 := by
  have hn : (S2 z n j).names j 0 = false := by simp [S2, St.names, St.at, List.getElem?_set, G_length, h]
  exact ⟨by simp [St.thing, hn], by simp [St.err, hn]⟩
theorem s2_other (hi : i < n) (hne : i ≠ j) : (S2 z n j).thing i 0 = z i ∧ (S2 z n j).err i 0 = 0 := by
  have hn : (S2 z n j).names i 0 = true := by simp [S2, St.names, St.at, List.getElem?_set_ne (Ne.symm hne), G_get hi]
  refine ⟨?_, by simp [St.err, hn]⟩
  simp only [St.thing, hn, if_true]
  simp [S2, St.at, List.getElem?_set_ne (Ne.symm hne), G_get hi]
theorem s2_cnt (h : j < n) : cnt (S2 z n j).pl = n - 1 := by
  have := cnt_set ⟨0, false, 1⟩ (G_get (z := z) h)
  simp [G_cnt] at this
  simp only [S2]
  omega
end
section
variable {w0 w : World} {O : Nat → Prop} {N : Int} {b : Nat} {st : St}
theorem Hold.getAs {i g x n : Int} (h : Hold w0 O N b st w) (e : st.thing i g = x ∧ st.err i g = n) : Calls Try.prog 15 #[.pointer (some ⟨b, 0, none⟩), .agg #[.int .i64 i, .int .i64 g]] w (Res (.tuple #[.int .i64 x, .int .i64 n]) w0 O N b st w) := by
  have := h.get i g
  rwa [e.1, e.2] at this
theorem Hold.setAs {i g x n : Int} {st' : St} (h : Hold w0 O N b st w) (e : st.err i g = n ∧ st.set i g x = st') : Calls Try.prog 17 #[.pointer (some ⟨b, 0, none⟩), .agg #[.int .i64 i, .int .i64 g], .int .i64 x] w (Res (.int .i64 n) w0 O N b st' w) := by
  have := h.set i g x
  rwa [e.1, e.2] at this
end

def KeepI2 (w : World) (B b : Nat) (z : Nat → Int) (n j : Nat) (v t : Value) (wr : World) : Prop := ∃ k : Nat, k ≤ n ∧ t = .int .i64 k ∧ Hold w (OL B [v]) 1 b (S2 z n j) wr ∧ wr.ownsRow B 36 2 v (T n).length (cellsH (T n))
def KeepI (w : World) (B b len : Nat) (z : Nat → Int) (v t : Value) (wr : World) : Prop := ∃ k : Nat, k ≤ len ∧ k ≤ 60 ∧ t = .int .i64 k ∧ Hold w (OL B [v]) 0 b ⟨64, G z k, []⟩ wr ∧ wr.ownsRow B 36 2 v (T k).length (cellsH (T k))

set_option maxRecDepth 100000 in
theorem keeps_as (v : Option Addr) (len cap : Nat) (z : Nat → Int) (a x : Int) (w : World) (a0 : 0 ≤ a) (a1 : a ≤ 255) (hlen : len ≤ 9223372036854775807)
    (HC : Hid (∀ j, j < len → ∃ k off, v = some ⟨k, off, none⟩ ∧ k < w.heap.size ∧ w.cell? ⟨k, off + j, none⟩ = some (.int .i64 (z j)))) :
    Calls Try.prog 5 #[.slice v len cap, .int .u8 a, .int .i64 x] w (Yes w) := by
  obtain ⟨i0, hi, hz0, hz1, hz2⟩ := info_parts infoH
  have hg := Below.refl w.heap.size w
  go_enter Try.func5, Try.ntmps5
  go_wp2_with (first
    | (go_at_call 9; refine (awake _).mono ?_; rintro e w1 ⟨rfl, hg1⟩; replace hg := fresh_trans hg hg1; clear hg1)
    | (go_at_call 10; refine (newHold w w1 64 hg (by omega) (by omega)).mono ?_; rintro e w2 ⟨rfl, hH, _⟩))
  have hB := hg.size
  replace hH : Hold w (OL w1.heap.size [.slice none 0 0]) 0 w1.heap.size ⟨64, G z 0, []⟩ w2 := hH.less (fun k hk => by simpa [OL, Value.ownBlock] using hk) (OL.sub hB _)
  generalize w1.heap.size = B at *
  go_loopw [10, 11] (fun v t wr => KeepI w B B len z v t wr) (fun _ i _ => 60 - (intOf i).toNat)
  case atStart => exact ⟨0, by omega, by omega, rfl, hH, World.ownsRow_nil _ _ _ _⟩
  case round =>
    clear hH
    obtain ⟨k, hk1, hk2, rfl, hH, hown⟩ := hrel
    by_cases hlt : k < len ∧ k < 60
    · obtain ⟨h1, h2⟩ := hlt
      obtain ⟨j, off, rfl, hj, hcell⟩ := HC.out k h1
      have hcell' := (hH.below.cell hj).trans hcell
      clear hcell
      have h4 : (k : Int) < len := by omega
      have h5 : (k : Int) < 60 := by omega
      have hTl := T_length k
      go_wp2_with (first
        | (go_at_call 13; refine (hH.putAs (z k) (by omega) (put_G (by omega))).mono ?_; clear hH hcell'; rintro e w3 ⟨rfl, hH, hs⟩; replace hown := owns_same hown hs (OL.mem (by simp)); clear hs)
        | (at_builtin; refine wpList_append_lies _ rfl (.tmp 55) (.tmp 57) 34 rfl B 36 i0 _ 2 16 Try.underlying34 hi hz0 hz1 hz2 rfl (by decide) _ _ _ rfl ((hown.alloc _).alloc _) ⟨w3.heap.size + 1, 0, none⟩ 1 1 [.int .i64 (k : Int), .int .i64 0] rfl rfl (World.news_of_block (by first | exact heap_alloc2_new w3 _ _ | (have := heap_alloc_new (w3.alloc _) _; simpa using this))) (by simp [Value.oneCell']) (by decide) (by simp only [maxLen]; omega) (by omega) (by have := hH.pool.lt; simp; omega) (w3.heap.size + 1 + 1) (by simp) ?_; intro g cap w4 hown4 hgrow hat hlt))
      go_roundw
      case rel =>
        refine ⟨k + 1, by omega, by omega, by go_num, ((hH.local _).forget (OL.sub hB _)).append hB (hown.alloc _) (by simp) hgrow (hat.imp_right fun h => by simpa using h) hlt (fun u hu => .inr (List.mem_singleton.1 hu)), ?_⟩
        rw [T_length] at hown4
        rw [T_length, T_succ, cellsH_append]
        exact hown4
      case measure => simp [intOf]; omega
    · obtain ⟨ao, cp, rfl⟩ := owns_shape hown
      rw [T_length]
      have hd : ¬ (k : Int) < len ∨ ((k : Int) < len ∧ ¬ (k : Int) < 60) := by omega
      by_cases hk0 : k = 0
      · subst hk0
        rw [T_length] at hown hH
        have e0 : Hid (cnt (⟨64, G z 0, []⟩ : St).pl = 0) := G_cnt z 0
        have h1 : ¬ ((0 : Nat) : Int) < len := by omega
        go_wp2_with (first
          | (go_at_call 22; refine (hH.lenAs e0.out).mono ?_; clear hH; rintro e w7 ⟨rfl, h7, _⟩))
        go_ret
        exact ⟨by simp, h7.below⟩
      · obtain ⟨j, hj⟩ := Int.eq_ofNat_of_zero_le (Int.emod_nonneg a (show (k : Int) ≠ 0 by omega))
        have hjk : j < k := by have := Int.emod_lt_of_pos a (show 0 < (k : Int) by omega); omega
        have hjk1 : (j : Int) < k := by omega
        have hkz : ((k : Int) == 0) = false := by simpa using hk0
        have hkz1 : ¬ (k : Int) = 0 := by omega
        have HC2 : Hid (∀ i, i < k → ∃ g off, v = some ⟨g, off, none⟩ ∧ g < w.heap.size ∧ w.cell? ⟨g, off + i, none⟩ = some (.int .i64 (z i))) := fun i hi => HC.out i (by omega)
        obtain ⟨g, c, ev, c0, c1⟩ := told_cell hown (T_get hjk)
        rw [T_length] at ev hown hH
        cases ev
        have e1 : Hid _ := s0_set (z := z) (n := k) (x := x) hjk
        have e2 : Hid _ := s1_get (z := z) (n := k) (x := x) hjk
        have e3 : Hid _ := s1_free (z := z) (n := k) (x := x) hjk
        have hH : Hold w (OL B [.slice (some ⟨g, 0, none⟩) k cp]) 0 B (S0 z k) wr := hH
        have hlk : k ≤ len := hk1
        clear HC
        rcases hd with h1 | ⟨h1, h2⟩
        all_goals
          go_wp2_with (first
            | (go_at_call 17; refine (hH.setAs e1.out).mono ?_; clear hH; rintro e w3 ⟨rfl, h3, s3⟩; replace c0 := s3.cell (OL.mem (List.mem_singleton.2 rfl) g rfl) c0; replace c1 := s3.cell (OL.mem (List.mem_singleton.2 rfl) g rfl) c1; replace hown := owns_same hown s3 (OL.mem (List.mem_singleton.2 rfl)); clear s3)
            | (go_at_call 15; refine (h3.getAs e2.out).mono ?_; clear h3; rintro e w4 ⟨rfl, h4, s4⟩; replace c0 := s4.cell (OL.mem (List.mem_singleton.2 rfl) g rfl) c0; replace c1 := s4.cell (OL.mem (List.mem_singleton.2 rfl) g rfl) c1; replace hown := owns_same hown s4 (OL.mem (List.mem_singleton.2 rfl)); clear s4)
            | (go_at_call 19; refine (h4.freeAs (by omega) ⟨e2.out.1, e2.out.2, e3.out⟩).mono ?_; clear h4; rintro e w5 ⟨rfl, h5, s5⟩; replace hown := owns_same hown s5 (OL.mem (List.mem_singleton.2 rfl)); clear s5))
          go_loopw [20] (fun t wr => KeepI2 w B B z k j (.slice (some ⟨g, 0, none⟩) k cp) t wr) (fun i _ => k - (intOf i).toNat)
          case atStart => exact ⟨0, by omega, rfl, h5, by rw [T_length]; exact hown⟩
          case round =>
            clear h5 hown e1 e2 e3 c0 c1
            obtain ⟨i, hik, rfl, hH, hown⟩ := hrel
            by_cases hlt : i < k
            · have hlt1 : (i : Int) < k := by omega
              obtain ⟨g', c', ev, c0, c1⟩ := told_cell hown (T_get hlt)
              rw [T_length] at ev
              cases ev
              obtain ⟨g2, off, rfl, hj2, hcell⟩ := HC2.out i hlt
              have hil : (i : Int) < len := by omega
              by_cases hij : i = j
              · subst hij
                have e4 : Hid _ := s2_same (z := z) (n := k) hjk
                go_wp2_with (first
                  | (go_at_call 15; refine (hH.getAs e4.out).mono ?_; clear hH; rintro e w6 ⟨rfl, hH, s6⟩; replace hown := owns_same hown s6 (OL.mem (List.mem_singleton.2 rfl)); clear s6 c0 c1))
                go_roundw
                case rel => exact ⟨i + 1, by omega, by go_num, hH, hown⟩
                case measure => simp [intOf]; omega
              · have e4 : Hid _ := s2_other (z := z) (n := k) hlt hij
                have hij1 : ¬ (i : Int) = j := by omega
                go_wp2_with (first
                  | (go_at_call 15; refine (hH.getAs e4.out).mono ?_; clear hH; rintro e w6 ⟨rfl, hH, s6⟩; replace hown := owns_same hown s6 (OL.mem (List.mem_singleton.2 rfl)); clear s6 c0 c1; have hcell' := (hH.below.cell hj2).trans hcell))
                go_roundw
                case rel => exact ⟨i + 1, by omega, by go_num, hH, hown⟩
                case measure => simp [intOf]; omega
            · obtain rfl : i = k := by omega
              have e5 : Hid _ := s2_cnt (z := z) hjk
              go_wp2_with (first
                | (go_at_call 22; refine (hH.lenAs e5.out).mono ?_; clear hH; rintro e w7 ⟨rfl, h7, _⟩))
              go_ret
              exact ⟨by simp; omega, h7.below⟩
theorem keepsLaw (v : Option Addr) (len cap : Nat) (zs : List Int) (a x : Int) (w : World) (a0 : 0 ≤ a) (a1 : a ≤ 255) (hlen : len ≤ 9223372036854775807)
    (hc : ∀ j, j < len → ∃ k off, v = some ⟨k, off, none⟩ ∧ k < w.heap.size ∧ w.cell? ⟨k, off + j, none⟩ = some (.int .i64 (zs[j]?.getD 0))) :
    Calls Try.prog 5 #[.slice v len cap, .int .u8 a, .int .i64 x] w (Yes w) := keeps_as v len cap (fun j => zs[j]?.getD 0) a x w a0 a1 hlen hc
end Go.Proofs.Ytpiennnkgbfbbaa.Arena
